import PyProof.Rows.All
import Wide.All
import OpenK.AllK
import Wide.FinOn
import HandS.ForMost
import HandS.Exc
import HandS.ExcOwn
import HandS.WordsExc
import HandS.HeadEnd
import HandS.Defaults
import HandS.HeadHook2
import KE.KDictCopyH
import HandS.TupAny
import HandS.More
import HandS.IsInst
import HandS.Wide
import HandS.ExcIs
import PyProof.ReprRoads
import PyProof.Rows.SeqMore
import HandS.RaiseMore
import HandS.Strs
import HandS.TupMul
import HandS.TupLe
import HandS.SetFor
import HandS.Deep
import HandS.Head2
import PyProof.ReprLen
import HandS.Style
import HandS.SetBool
import HandS.Conv
import HandS.SortInts
import PySem.Challenge.RW_sortclues_k05_rows_compared
set_option Elab.async false
set_option linter.all false
set_option maxRecDepth 100000
set_option maxHeartbeats 0
set_option autoImplicit false
/-! Defs whose surroundings are known to show no object: promises that may lean on that (repr asks it). -/
namespace Vf
open PySem PySem.Spec L2
open PyProof.Rows hiding St
/-- no object is being shown around -/
abbrev Gd (A : Around) : Prop := A.guards = some []
structure FnG (P : Program) (w : World) (K : PySem.W.Frag)
    (mg : Str → Option Value) (base : Heap) (k : Nat) (f : Addr)
    (fd : FuncData) (ps : List Str) (sp : Sp) : Prop where
  len : ∀ vs H Q E, sp vs H Q E → vs.length = ps.length
  run : ∀ (A : Around) (outer : List Env) (s : Shared) (H : Hp) (args : Args)
    (us : List Value) (vs : List V) (Q : VK) (E : XK),
    Room k A → Gd A → Env0 P w K mg base A outer s H →
    BindsTo s fd args (ps.zip us) → Vals vs us → sp vs H Q E →
    codeAny (model P w) A (.call (.ref f) args)
      (CR (L2.CX P w) outer P w H s Q E) s
section
variable {P : Program} {w : World} {K : PySem.W.Frag} {mg : Str → Option Value} {base : Heap}
theorem FnG.mono {j k : Nat} {f : Addr} {fd : FuncData} {ps : List Str} {sp : Sp}
    (F : FnG P w K mg base j f fd ps sp) (h : j ≤ k) : FnG P w K mg base k f fd ps sp :=
  ⟨F.len, fun A o s H as us vs Q E hr => F.run A o s H as us vs Q E (hr.mono h)⟩
theorem FnG.imp {k : Nat} {f : Addr} {fd : FuncData} {ps : List Str} {sp sp' : Sp}
    (F : FnG P w K mg base k f fd ps sp) (h : ∀ vs H Q E, sp' vs H Q E → sp vs H Q E) :
    FnG P w K mg base k f fd ps sp' :=
  ⟨fun vs H Q E q => F.len vs H Q E (h _ _ _ _ q),
   fun A o s H as us vs Q E hr hg he hb hv hs => F.run A o s H as us vs Q E hr hg he hb hv (h _ _ _ _ hs)⟩
/-- a def of the text, by its body -/
theorem fnG_of {k : Nat} {f : Addr} {x qual : Str} {params : Arguments} {body : List Stmt}
    {sc : Scope} {dV kV doc pm cdv ct oc : Value} {an od : Option Addr} {osl : Array (Option Value)}
    {N ps : List Str} {sp : Sp}
    (lk : K.lookup f = some ⟨oc, od, .func (PySem.W.fnOf x qual params body sc dV kV doc pm an cdv ct), osl⟩)
    (hcd : PySem.W.codeIn K cdv qual = true) (S : FnScope N ps sc)
    (len : ∀ vs H Q E, sp vs H Q E → vs.length = ps.length)
    (hbody : ∀ (A : Around) (outer : List Env) (s : Shared) (H : Hp) (vs : List V) (Q : VK) (E : XK),
      Room k (A.deeper (envOfC qual sc s.heap.objs.size f cdv)) → Gd A → sp vs H Q E →
      ∃ t, PSs (cxOf (L2.CX P w) P w K mg base N qual sc f cdv A outer s H E) body t ∧
        t { nx := fun _ H' => Q .non H', rt := Q } (start N vs) H) :
    FnG P w K mg base (k + 1) f (PySem.W.fnOf x qual params body sc dV kV doc pm an cdv ct) ps sp := by
  refine ⟨len, ?_⟩
  intro A outer s H args us vs Q E hr hgd e0 hb rv hsp
  have hl := len vs H Q E hsp
  have KX : K.In s.heap :=
    e0.mod.kin.keeps fun b o e => (e0.bs b o e).1
  have lim : s.heap.NoLimit :=
    e0.mod.nolimit.keeps fun b o e => (e0.bs b o e).1
  have kinds : ∀ y ∈ ps.zip us, sc.names.lookup y.1 = some .local ∨
      (sc.names.lookup y.1 = some .cell ∧
        ((cellsFrom (s.heap.objs.size + 1) sc.names []).lookup y.1).isSome = true) := by
    rintro ⟨n, v⟩ hy
    rcases S.par n (List.of_mem_zip hy).1 with q | q
    · left; exact q
    · right; exact ⟨q, PySem.W.cellsFrom_some _ _ _ (.inl q)⟩
  refine codeAny_call_function hr.depth (KX _ _ lk) rfl S.co S.gen rfl
    (PySem.W.codeRec_of KX hcd) (hb _ _ _ _ ?_)
  refine wpAny_newFunctionEnv_cells S.kind kinds ?_
  intro env he s1 xx
  subst he
  refine ⟨lim.keeps xx.toInCall.keep, codeAny_func ?_⟩
  obtain ⟨t, ht, hq⟩ :=
    hbody A outer s H vs Q E (hr.deeper _) hgd hsp
  have I := inv_start (CX := L2.CX P w) (E := E) S hr.hd e0 hl rv xx
  refine wpAny_mono (ht.run [] s1 (start N vs) H _ I hq) ?_ (fun _ _ z => z)
  intro fl s' hs
  have fin : ∀ {σ' : St} {H' : Hp} {v : V} {u : Value},
      Inv (cxOf (L2.CX P w) P w K mg base N qual sc f cdv A outer s H E) [] σ' H' s' →
      RelV v u → Q v H' → CE outer P w H s Q u s' := by
    intro σ' H' v u J r q
    exact ⟨v, H', J.os, J.bare, J.base, J.hok, r, q⟩
  cases fl with
  | ret u =>
    obtain ⟨v, σ', H', J, r, q⟩ := hs
    exact fin J r q
  | next =>
    obtain ⟨σ', H', J, q⟩ := hs
    exact fin (v := V.non) (u := Value.none) J rfl q
  | brk => exact hs.elim fun _ z => z.elim fun _ z => z.2.elim
  | cont => exact hs.elim fun _ z => z.elim fun _ z => z.2.elim
/-- .. with the words of Defaults: a def as it stands behind the top -/
theorem FunD.okG {x qual : Str} {params : Arguments} {body : List Stmt} {sc : Scope}
    {f : Addr} {fd : FuncData} {N ps : List Str} {k : Nat} {sp : Sp}
    (F : FunD K x qual params body sc [] [] f fd) (S : FnScope N ps sc)
    (len : ∀ vs H Q E, sp vs H Q E → vs.length = ps.length)
    (hbody : ∀ (cdv : Value) (A : Around) (outer : List Env) (s : Shared) (H : Hp) (vs : List V) (Q : VK) (E : XK),
      Room k (A.deeper (envOfC qual sc s.heap.objs.size f cdv)) → Gd A → sp vs H Q E →
      ∃ t, PSs (cxOf (L2.CX P w) P w K mg base N qual sc f cdv A outer s H E) body t ∧
        t { nx := fun _ H' => Q .non H', rt := Q } (start N vs) H) :
    FnG P w K mg base (k + 1) f fd ps sp := by
  obtain ⟨oc, od, dV, kV, doc, pm, an, cdv, ct, osl, rfl, lk, hcd, _, _⟩ := F.ex
  exact fnG_of lk hcd S len (fun A o s H vs Q E hr hg hs => hbody cdv A o s H vs Q E hr hg hs)
end
section
variable {X : Cx} {k : Nat} {f : Addr} {fd : FuncData} {ps : List Str} {sp : Sp}
/-- the callee runs; what it lets out is wished for at the caller's slots -/
theorem runG {pins : List (Addr × Obj)} {σ : St} {H : Hp} {s : Shared} {Q : VK} {us : List Value} {vs : List V} {E : St → XK}
    (F : FnG X.prog X.w X.K X.mg X.base k f fd ps sp) (hr : Room k X.A) (hg : Gd X.A)
    (hb : Binds X.K fd ps []) (hx : PassesAt (L2.CX X.prog X.w) X σ (E σ))
    (I : Inv X pins σ H s) (r : Vals vs us) (h : sp vs H Q (E σ)) :
    wpAny (model X.prog X.w) X.A (call (.ref f) us) (EP X pins σ Q) X.xe s := by
  have hl : (us ++ []).length = ps.length := by
    rw [List.append_nil, ← r.length]; exact F.len _ _ _ _ h
  have b := hb s us I.kIn hl
  rw [List.append_nil] at b
  refine wpAny_call (codeAny_mono (F.run X.A X.stack s H ⟨us, []⟩ us vs Q (E σ) hr hg I.env0 b r h) ?_)
  intro r' s' hq
  match r', hq with
  | .error e, hq => exact hx pins H s e s' I hq
  | .ok (.ret u), hq => exact I.after hq
theorem pe_callG {E : St → XK} {x : Str} {p pos : Pos} {e : Expr} {es : List Expr} {t : TA}
    (F : FnG X.prog X.w X.K X.mg X.base k f fd ps sp) (hr : Room k X.A) (hgd : Gd X.A)
    (hg : Gl X x) (hm : X.mg x = some (.ref f)) (hk : PySem.W.keepIn X.K (.ref f) = true)
    (hb : Binds X.K fd ps []) (hx : ∀ σ, PassesAt (L2.CX X.prog X.w) X σ (E σ))
    (ha : PA X (e :: es) t) (hdb : (x == ("__debug__" : Str)) = false := by decide)
    (he : starEach (e :: es) X.env = (false, eval e X.env) :: starEach es X.env := by rfl)
    (hpl : (backTo pos (starEach es X.env)).any (·.1) = false := by rfl) :
    PE X (.Call (.Name x p) (e :: es) [] pos) (tCallS sp E t) := by
  constructor
  intro pins s σ H Q I h
  refine wpAny_Call_Name_kw (ld_glob I hg hm ?_ hdb)
  have step := thn (ha.run pos pins s σ H _ I h) (Q' := fun us s1 => X.K.In s1.heap ∧
      wpAny (model X.prog X.w) X.A (call (.ref f) us) (EP X pins σ Q) X.xe s1)
    (fun us s1 ⟨vs, H1, I1, r, q⟩ => ⟨I1.kIn, runG F hr hgd hb (hx σ) I1 r q⟩)
  exact PySem.W.callWith_K (h₀ := X.base) I.ok.mod.kin hk step he hpl
end
end Vf
/-! Data in the heap: what a frame's slots hold, told without addresses. F is the part of the heap that stays as it is; a list that only one slot names may change. -/
namespace Vf
open PySem PySem.Spec L2
open PyProof.Rows hiding St
/-- lists and tuples of lists and tuples, all lists named by one alone; d: data that stays -/
inductive OT where
  | d (x : PyData)
  | lst (ts : List OT)
  | tup (ts : List OT)
/-- a dict (keys whole numbers and texts; whole numbers and None; tuples of the former), a set of whole numbers and None, an instance: what they hold stays -/
inductive FT where
  | dK (ks : List Key) (xs : List PyData)
  | dN (ks : List (Option Int)) (xs : List PyData)
  | dT (ks : List (List Key)) (xs : List PyData)
  | sN (ks : List (Option Int))
  | ins (c : Str) (fs : List Str) (xs : List PyData)
/-- what a slot, a value is: data that stays (d), a list that this slot alone names (own), one that a caller's slot names (brw), the list of the slot i (loc), an exception of the class c; a structure of the slot's own (ot), one of a caller's slot (bt); a dict, a set or an instance of the slot's own (fo), one that stays (ff) -/
inductive Wv where
  | d (x : PyData)
  | own (xs : List PyData)
  | brw (xs : List PyData)
  | loc (i : Nat)
  | exc (c : Str)
  | ot (t : OT)
  | bt (t : OT)
  | fo (t : FT)
  | ff (t : FT)
abbrev En := List (Option Wv)
def Ex (F H : Hp) : Prop := ∀ a o, F a = some o → H a = some o
theorem Ex.rfl' (H : Hp) : Ex H H := fun _ _ h => h
theorem Ex.tr {A B C : Hp} (h : Ex A B) (g : Ex B C) : Ex A C := fun a o e => g a o (h a o e)
theorem Ex.new {H : Hp} {p : Addr} {o : HO} (h : H p = none) : Ex H (upd H p o) := fun a u e => by
  rw [upd_ne (ne_of_none e h)]; exact e
theorem rd_ex {F H : Hp} {a : Addr} {u : HO} (x : Ex F H) (h : Rd F a u) : Rd H a u := by
  rcases h with h | ⟨o, h⟩
  · exact .inl (x a _ h)
  · exact .inr ⟨o, x a _ h⟩
theorem sql_ex {K : PySem.W.Frag} {F H : Hp} {a : Addr} {xs : List V} (x : Ex F H) (h : SqL K F a xs) : SqL K H a xs := by
  rcases h with h | h
  · exact .inl (rd_ex x h)
  · exact .inr h
theorem sqt_ex {K : PySem.W.Frag} {F H : Hp} {a : Addr} {xs : List V} (x : Ex F H) (h : SqT K F a xs) : SqT K H a xs := by
  rcases h with h | h
  · exact .inl (rd_ex x h)
  · exact .inr h
mutual
theorem dp_ex {K : PySem.W.Frag} {F H : Hp} (x : Ex F H) : ∀ (d : PyData) (v : V), Dp K F v d → Dp K H v d
  | .none, _, h => by cases h; exact .non
  | .bool b, _, h => by cases h; exact .bl b
  | .int i, _, h => by cases h; exact .int i
  | .str s, _, h => by cases h; exact .str s
  | .list ds, _, h => by
    cases h with
    | lst hs ha => exact .lst (sql_ex x hs) (dpa_ex x ds _ ha)
  | .tuple ds, _, h => by
    cases h with
    | tup hs ha => exact .tup (sqt_ex x hs) (dpa_ex x ds _ ha)
  | .dict _, _, h => by cases h
theorem dpa_ex {K : PySem.W.Frag} {F H : Hp} (x : Ex F H) : ∀ (ds : List PyData) (vs : List V), DpAll K F vs ds → DpAll K H vs ds
  | [], _, h => by cases h; exact .nil
  | d :: ds, _, h => by
    cases h with
    | cons h1 h2 => exact .cons (dp_ex x d _ h1) (dpa_ex x ds _ h2)
end
section
variable {K : PySem.W.Frag} {F : Hp}
theorem dpa_len : ∀ {vs : List V} {ds : List PyData}, DpAll K F vs ds → vs.length = ds.length
  | _, _, .nil => rfl
  | _, _, .cons _ t => by rw [List.length_cons, List.length_cons, dpa_len t]
theorem dpa_app : ∀ {vs ws : List V} {ds es : List PyData}, DpAll K F vs ds → DpAll K F ws es → DpAll K F (vs ++ ws) (ds ++ es)
  | _, _, _, _, .nil, g => g
  | _, _, _, _, .cons h t, g => .cons h (dpa_app t g)
theorem dpa_get : ∀ {vs : List V} {ds : List PyData} {i : Nat} {v : V}, DpAll K F vs ds → vs[i]? = some v → ∃ d, ds[i]? = some d ∧ Dp K F v d
  | _, _, _, _, .nil, e => by cases e
  | _, _, 0, _, .cons h t, e => by cases e; exact ⟨_, rfl, h⟩
  | _, _, i + 1, _, .cons h t, e => dpa_get (i := i) t e
theorem dpa_get' : ∀ {vs : List V} {ds : List PyData} {i : Nat} {d : PyData}, DpAll K F vs ds → ds[i]? = some d → ∃ v, vs[i]? = some v ∧ Dp K F v d
  | _, _, _, _, .nil, e => by cases e
  | _, _, 0, _, .cons h t, e => by cases e; exact ⟨_, rfl, h⟩
  | _, _, i + 1, _, .cons h t, e => dpa_get' (i := i) t e
theorem dpa_set : ∀ {vs : List V} {ds : List PyData} {v : V} {d : PyData} (i : Nat), DpAll K F vs ds → Dp K F v d → DpAll K F (vs.set i v) (ds.set i d)
  | _, _, _, _, _, .nil, _ => .nil
  | _, _, _, _, 0, .cons _ t, g => .cons g t
  | _, _, _, _, i + 1, .cons h t, g => .cons h (dpa_set i t g)
theorem dpa_take : ∀ {vs : List V} {ds : List PyData} (n : Nat), DpAll K F vs ds → DpAll K F (vs.take n) (ds.take n)
  | _, _, 0, _ => .nil
  | _, _, _ + 1, .nil => .nil
  | _, _, n + 1, .cons h t => .cons h (dpa_take n t)
theorem dpa_drop : ∀ {vs : List V} {ds : List PyData} (n : Nat), DpAll K F vs ds → DpAll K F (vs.drop n) (ds.drop n)
  | _, _, 0, h => h
  | _, _, _ + 1, .nil => .nil
  | _, _, n + 1, .cons _ t => dpa_drop n t
theorem dp_list_ref {v : V} {ds : List PyData} (h : Dp K F v (.list ds)) : ∃ a vs, v = .ref a ∧ SqL K F a vs ∧ DpAll K F vs ds := by
  cases h with
  | lst hs ha => exact ⟨_, _, rfl, hs, ha⟩
theorem dp_tup_ref {v : V} {ds : List PyData} (h : Dp K F v (.tuple ds)) : ∃ a vs, v = .ref a ∧ SqT K F a vs ∧ DpAll K F vs ds := by
  cases h with
  | tup hs ha => exact ⟨_, _, rfl, hs, ha⟩
theorem dp_int {v : V} {i : Int} (h : Dp K F v (.int i)) : v = .int i := by cases h; rfl
theorem dp_str {v : V} {z : Str} (h : Dp K F v (.str z)) : v = .str z := by cases h; rfl
theorem dp_bl {v : V} {b : Bool} (h : Dp K F v (.bool b)) : v = .bl b := by cases h; rfl
theorem dp_non {v : V} (h : Dp K F v .none) : v = .non := by cases h; rfl
end
/-- an exception that a slot holds -/
def ExH (cls : Value) (a : Addr) : HO := .ext fun h => ∃ (oe : Obj) (vs : Array Value), h.get? a = some oe ∧ Zc cls none oe ∧ oe.data = .fields vs
/-- the classes of the text: their addresses by their names -/
abbrev cl (K : PySem.W.Frag) (c : Str) : Value := .ref (He.ga K c)
/-- a dict whose keys are whole numbers and None -/
def lfK : Option Int → Leaf
  | none => .none
  | some i => .num i
def DicN (p : Addr) (kvs : List (Option Int × V)) : HO := .ext fun h => kvs.length ≤ sizeLine ∧ (p == sysModules) = false ∧ ∃ vs, KV kvs vs ∧ ∀ (P : Program) (w : World), h.DictOf (leafKind P w) p (vs.map fun q => (lfK q.1, q.2))
def SetN (p : Addr) (ks : List (Option Int)) : HO := .ext fun h => ∀ (P : Program) (w : World), h.SetOf (leafKind P w) p (fun z => decide (z ∈ ks.map lfK)) ks.length
def FTok (K : PySem.W.Frag) (F : Hp) (p : Addr) (o : HO) : FT → Prop
  | .dK ks xs => ∃ vs, ks.length = vs.length ∧ o = .dK (ks.zip vs) ∧ DpAll K F vs xs
  | .dN ks xs => ∃ vs, ks.length = vs.length ∧ o = DicN p (ks.zip vs) ∧ DpAll K F vs xs
  | .dT ks xs => ∃ vs, ks.length = vs.length ∧ o = .dT (ks.zip vs) ∧ DpAll K F vs xs
  | .sN ks => o = SetN p ks
  | .ins c fs xs => ∃ dx vs, fs.length = vs.length ∧ o = .ins (He.ga K c) dx (fs.zip vs) ∧ F dx = some (.own p) ∧ DpAll K F vs xs
theorem ftok_ex {K : PySem.W.Frag} {F G : Hp} {p : Addr} {o : HO} {t : FT} (x : Ex F G) (h : FTok K F p o t) : FTok K G p o t := by
  cases t with
  | dK ks xs => obtain ⟨vs, a, b, c⟩ := h; exact ⟨vs, a, b, dpa_ex x _ _ c⟩
  | dN ks xs => obtain ⟨vs, a, b, c⟩ := h; exact ⟨vs, a, b, dpa_ex x _ _ c⟩
  | dT ks xs => obtain ⟨vs, a, b, c⟩ := h; exact ⟨vs, a, b, dpa_ex x _ _ c⟩
  | sN ks => exact h
  | ins c fs xs => obtain ⟨dx, vs, a, b, d, c⟩ := h; exact ⟨dx, vs, a, b, x _ _ d, dpa_ex x _ _ c⟩
mutual
def OTD (K : PySem.W.Frag) (F H : Hp) : V → OT → Prop
  | v, .d x => Dp K F v x
  | v, .lst ts => ∃ p vs, v = .ref p ∧ F p = none ∧ H p = some (.lst vs) ∧ OTDs K F H vs ts
  | v, .tup ts => ∃ p vs, v = .ref p ∧ F p = some (.tup vs) ∧ OTDs K F H vs ts
def OTDs (K : PySem.W.Frag) (F H : Hp) : List V → List OT → Prop
  | [], [] => True
  | v :: vs, t :: ts => OTD K F H v t ∧ OTDs K F H vs ts
  | _, _ => False
end
mutual
/-- the lists that it names -/
def oad (H : Hp) : V → OT → List Addr
  | .ref p, .lst ts => p :: (match H p with
    | some (.lst vs) => oads H vs ts
    | _ => [])
  | .ref p, .tup ts => (match H p with
    | some (.tup vs) => oads H vs ts
    | _ => [])
  | _, _ => []
def oads (H : Hp) : List V → List OT → List Addr
  | v :: vs, t :: ts => oad H v t ++ oads H vs ts
  | _, _ => []
end
mutual
/-- .. read as data -/
def toD : OT → PyData
  | .d x => x
  | .lst ts => .list (toDs ts)
  | .tup ts => .tuple (toDs ts)
def toDs : List OT → List PyData
  | [] => []
  | t :: ts => toD t :: toDs ts
end
theorem oad_d {H : Hp} {v : V} {x : PyData} : oad H v (.d x) = [] := by cases v <;> simp [oad]
theorem oad_lst {H : Hp} {p : Addr} {vs : List V} {ts : List OT} (h : H p = some (.lst vs)) : oad H (.ref p) (.lst ts) = p :: oads H vs ts := by simp [oad, h]
theorem oad_tup {H : Hp} {p : Addr} {vs : List V} {ts : List OT} (h : H p = some (.tup vs)) : oad H (.ref p) (.tup ts) = oads H vs ts := by simp [oad, h]
mutual
theorem otd_up {K : PySem.W.Frag} {F H F1 H1 : Hp} (x0 : Ex F H) (x : Ex F F1) (x1 : Ex F1 H1) : ∀ (t : OT) (v : V), OTD K F H v t → (∀ a ∈ oad H v t, ∀ o, H a = some o → F1 a = none ∧ H1 a = some o) → OTD K F1 H1 v t ∧ oad H1 v t = oad H v t
  | .d y, v, h, _ => ⟨dp_ex x y v h, by rw [oad_d, oad_d]⟩
  | .lst ts, v, h, f => by
    obtain ⟨p, vs, rfl, h1, h2, h3⟩ := h
    rw [oad_lst h2] at f ⊢
    obtain ⟨g1, g2⟩ := f p List.mem_cons_self _ h2
    obtain ⟨g3, g4⟩ := otds_up x0 x x1 ts vs h3 fun a ha => f a (List.mem_cons_of_mem _ ha)
    exact ⟨⟨p, vs, rfl, g1, g2, g3⟩, by rw [oad_lst g2, g4]⟩
  | .tup ts, v, h, f => by
    obtain ⟨p, vs, rfl, h1, h3⟩ := h
    rw [oad_tup (x0 _ _ h1)] at f ⊢
    obtain ⟨g3, g4⟩ := otds_up x0 x x1 ts vs h3 f
    exact ⟨⟨p, vs, rfl, x _ _ h1, g3⟩, by rw [oad_tup (x1 _ _ (x _ _ h1)), g4]⟩
theorem otds_up {K : PySem.W.Frag} {F H F1 H1 : Hp} (x0 : Ex F H) (x : Ex F F1) (x1 : Ex F1 H1) : ∀ (ts : List OT) (vs : List V), OTDs K F H vs ts → (∀ a ∈ oads H vs ts, ∀ o, H a = some o → F1 a = none ∧ H1 a = some o) → OTDs K F1 H1 vs ts ∧ oads H1 vs ts = oads H vs ts
  | [], vs, h, _ => by
    cases vs with
    | nil => exact ⟨trivial, rfl⟩
    | cons v vs => exact h.elim
  | t :: ts, vs, h, f => by
    cases vs with
    | nil => exact h.elim
    | cons v vs =>
      obtain ⟨h1, h2⟩ := h
      have f : ∀ a ∈ oad H v t ++ oads H vs ts, ∀ o, H a = some o → F1 a = none ∧ H1 a = some o := f
      obtain ⟨g1, g2⟩ := otd_up x0 x x1 t v h1 fun a ha => f a (List.mem_append_left _ ha)
      obtain ⟨g3, g4⟩ := otds_up x0 x x1 ts vs h2 fun a ha => f a (List.mem_append_right _ ha)
      exact ⟨⟨g1, g3⟩, by show oad H1 v t ++ oads H1 vs ts = oad H v t ++ oads H vs ts; rw [g2, g4]⟩
end
mutual
theorem oad_at {K : PySem.W.Frag} {F H : Hp} (x0 : Ex F H) : ∀ (t : OT) (v : V), OTD K F H v t → ∀ a ∈ oad H v t, F a = none ∧ ∃ vs, H a = some (.lst vs)
  | .d y, v, h, a, ha => by rw [oad_d] at ha; cases ha
  | .lst ts, v, h, a, ha => by
    obtain ⟨p, vs, rfl, h1, h2, h3⟩ := h
    rw [oad_lst h2] at ha
    rcases List.mem_cons.mp ha with rfl | ha
    · exact ⟨h1, vs, h2⟩
    · exact oads_at x0 ts vs h3 a ha
  | .tup ts, v, h, a, ha => by
    obtain ⟨p, vs, rfl, h1, h3⟩ := h
    rw [oad_tup (x0 _ _ h1)] at ha
    exact oads_at x0 ts vs h3 a ha
theorem oads_at {K : PySem.W.Frag} {F H : Hp} (x0 : Ex F H) : ∀ (ts : List OT) (vs : List V), OTDs K F H vs ts → ∀ a ∈ oads H vs ts, F a = none ∧ ∃ us, H a = some (.lst us)
  | [], vs, h, a, ha => by
    cases vs with
    | nil => cases ha
    | cons v vs => cases ha
  | t :: ts, vs, h, a, ha => by
    cases vs with
    | nil => exact h.elim
    | cons v vs =>
      obtain ⟨h1, h2⟩ := h
      have ha : a ∈ oad H v t ++ oads H vs ts := ha
      rcases List.mem_append.mp ha with z | z
      · exact oad_at x0 t v h1 a z
      · exact oads_at x0 ts vs h2 a z
end
mutual
/-- made to stay as it is -/
theorem otd_frz {K : PySem.W.Frag} {F H : Hp} : ∀ (t : OT) (v : V) (F1 : Hp), Ex F F1 → Ex F1 H → OTD K F H v t → ∃ F2, Ex F1 F2 ∧ Ex F2 H ∧ (∀ a, F2 a ≠ none → F1 a ≠ none ∨ a ∈ oad H v t) ∧ Dp K F2 v (toD t)
  | .d y, v, F1, x, x1, h => ⟨F1, Ex.rfl' F1, x1, fun _ q => .inl q, dp_ex x y v h⟩
  | .lst ts, v, F1, x, x1, h => by
    obtain ⟨p, vs, rfl, h1, h2, h3⟩ := h
    obtain ⟨F2, g1, g2, g3, g4⟩ := otds_frz ts vs F1 x x1 h3
    refine ⟨upd F2 p (.lst vs), fun a o q => ?_, fun a o q => ?_, fun a q => ?_, .lst (SqL.of upd_same) (dpa_ex (fun a o q => ?_) _ _ g4)⟩
    · by_cases ha : a = p
      · subst ha; have := g2 _ _ (g1 _ _ q); rw [h2] at this; rw [upd_same, this]
      · rw [upd_ne ha]; exact g1 _ _ q
    · by_cases ha : a = p
      · subst ha; rw [upd_same] at q; rw [h2, q]
      · rw [upd_ne ha] at q; exact g2 _ _ q
    · rw [oad_lst h2]
      by_cases ha : a = p
      · rw [ha]; exact .inr List.mem_cons_self
      · rw [upd_ne ha] at q
        rcases g3 a q with z | z
        · exact .inl z
        · exact .inr (List.mem_cons_of_mem _ z)
    · by_cases ha : a = p
      · subst ha; have := g2 _ _ q; rw [h2] at this; rw [upd_same, this]
      · rw [upd_ne ha]; exact q
  | .tup ts, v, F1, x, x1, h => by
    obtain ⟨p, vs, rfl, h1, h3⟩ := h
    obtain ⟨F2, g1, g2, g3, g4⟩ := otds_frz ts vs F1 x x1 h3
    have h2 := g1 _ _ (x _ _ h1)
    exact ⟨F2, g1, g2, fun a q => by rw [oad_tup (g2 _ _ h2)]; exact g3 a q, .tup (SqT.of h2) g4⟩
theorem otds_frz {K : PySem.W.Frag} {F H : Hp} : ∀ (ts : List OT) (vs : List V) (F1 : Hp), Ex F F1 → Ex F1 H → OTDs K F H vs ts → ∃ F2, Ex F1 F2 ∧ Ex F2 H ∧ (∀ a, F2 a ≠ none → F1 a ≠ none ∨ a ∈ oads H vs ts) ∧ DpAll K F2 vs (toDs ts)
  | [], vs, F1, x, x1, h => by
    cases vs with
    | nil => exact ⟨F1, Ex.rfl' F1, x1, fun _ q => .inl q, .nil⟩
    | cons v vs => exact h.elim
  | t :: ts, vs, F1, x, x1, h => by
    cases vs with
    | nil => exact h.elim
    | cons v vs =>
      obtain ⟨h1, h2⟩ := h
      obtain ⟨F2, g1, g2, g3, g4⟩ := otd_frz t v F1 x x1 h1
      obtain ⟨F3, k1, k2, k3, k4⟩ := otds_frz ts vs F2 (x.tr g1) g2 h2
      refine ⟨F3, g1.tr k1, k2, fun a q => ?_, .cons (dp_ex k1 _ _ g4) k4⟩
      rcases k3 a q with z | z
      · rcases g3 a z with z | z
        · exact .inl z
        · exact .inr (List.mem_append_left _ z)
      · exact .inr (List.mem_append_right _ z)
end
def RV (K : PySem.W.Frag) (F H : Hp) (v : V) : Wv → Prop
  | .d x => Dp K F v x
  | .own xs => ∃ p vs, v = .ref p ∧ F p = none ∧ H p = some (.lst vs) ∧ DpAll K F vs xs
  | .brw xs => ∃ p vs, v = .ref p ∧ F p = none ∧ H p = some (.lst vs) ∧ DpAll K F vs xs
  | .loc _ => False
  | .exc c => ∃ a, v = .ref a ∧ F a = some (ExH (cl K c) a)
  | .ot t => OTD K F H v t ∧ (oad H v t).Nodup
  | .bt t => OTD K F H v t ∧ (oad H v t).Nodup
  | .fo t => ∃ p o, v = .ref p ∧ F p = none ∧ H p = some o ∧ FTok K F p o t
  | .ff t => ∃ p o, v = .ref p ∧ F p = some o ∧ FTok K F p o t
/-- the objects that a value of this kind alone names -/
def adr (H : Hp) (v : V) : Wv → List Addr
  | .own _ => (match v with
    | .ref p => [p]
    | _ => [])
  | .brw _ => (match v with
    | .ref p => [p]
    | _ => [])
  | .fo _ => (match v with
    | .ref p => [p]
    | _ => [])
  | .ot t => oad H v t
  | .bt t => oad H v t
  | _ => []
def isOwn : Option (Option Wv) → Prop
  | some (some (.own _)) => True
  | some (some (.brw _)) => True
  | some (some (.ot _)) => True
  | some (some (.bt _)) => True
  | some (some (.fo _)) => True
  | _ => False
def Ow (H : Hp) (σ : St) (e : En) (i : Nat) (a : Addr) : Prop := ∃ v w, e[i]? = some (some w) ∧ σ[i]? = some (some v) ∧ a ∈ adr H v w
/-- the object at a is one that a slot alone names -/
def Owned (H : Hp) (σ : St) (e : En) (a : Addr) : Prop := ∃ i : Nat, Ow H σ e i a
structure Rel (K : PySem.W.Frag) (F H : Hp) (σ : St) (e : En) : Prop where
  ex : Ex F H
  len : σ.length = e.length
  at_ : ∀ (i : Nat) w, e[i]? = some (some w) → ∃ v, σ[i]? = some (some v) ∧ RV K F H v w
  sep : ∀ (i j : Nat) a, Ow H σ e i a → Ow H σ e j a → i = j
theorem rv_adr {K : PySem.W.Frag} {F H : Hp} {v : V} {w : Wv} (x0 : Ex F H) (r : RV K F H v w) {a : Addr} (h : a ∈ adr H v w) : F a = none ∧ ∃ o, H a = some o := by
  have one : ∀ {p : Addr}, a ∈ [p] → a = p := fun z => List.mem_singleton.mp z
  cases w with
  | own xs => obtain ⟨p, vs, rfl, h1, h2, _⟩ := r; rw [one h]; exact ⟨h1, _, h2⟩
  | brw xs => obtain ⟨p, vs, rfl, h1, h2, _⟩ := r; rw [one h]; exact ⟨h1, _, h2⟩
  | fo t => obtain ⟨p, o, rfl, h1, h2, _⟩ := r; rw [one h]; exact ⟨h1, _, h2⟩
  | ot t => obtain ⟨h1, vs, h2⟩ := oad_at x0 t v r.1 a h; exact ⟨h1, _, h2⟩
  | bt t => obtain ⟨h1, vs, h2⟩ := oad_at x0 t v r.1 a h; exact ⟨h1, _, h2⟩
  | _ => cases h
theorem rv_up {K : PySem.W.Frag} {F H F1 H1 : Hp} {v : V} {w : Wv} (x0 : Ex F H) (x : Ex F F1) (x1 : Ex F1 H1) (r : RV K F H v w) (f : ∀ a ∈ adr H v w, ∀ o, H a = some o → F1 a = none ∧ H1 a = some o) : RV K F1 H1 v w ∧ adr H1 v w = adr H v w := by
  cases w with
  | d y => exact ⟨dp_ex x _ _ r, rfl⟩
  | own xs =>
    obtain ⟨p, vs, rfl, h1, h2, h3⟩ := r
    obtain ⟨g1, g2⟩ := f p (List.mem_singleton.mpr rfl) _ h2
    exact ⟨⟨p, vs, rfl, g1, g2, dpa_ex x _ _ h3⟩, rfl⟩
  | brw xs =>
    obtain ⟨p, vs, rfl, h1, h2, h3⟩ := r
    obtain ⟨g1, g2⟩ := f p (List.mem_singleton.mpr rfl) _ h2
    exact ⟨⟨p, vs, rfl, g1, g2, dpa_ex x _ _ h3⟩, rfl⟩
  | loc j => exact r.elim
  | exc c => obtain ⟨a, ea, q⟩ := r; exact ⟨⟨a, ea, x _ _ q⟩, rfl⟩
  | ot t =>
    obtain ⟨g1, g2⟩ := otd_up x0 x x1 t v r.1 f
    exact ⟨⟨g1, by rw [g2]; exact r.2⟩, g2⟩
  | bt t =>
    obtain ⟨g1, g2⟩ := otd_up x0 x x1 t v r.1 f
    exact ⟨⟨g1, by rw [g2]; exact r.2⟩, g2⟩
  | fo t =>
    obtain ⟨p, o, rfl, h1, h2, h3⟩ := r
    obtain ⟨g1, g2⟩ := f p (List.mem_singleton.mpr rfl) _ h2
    exact ⟨⟨p, o, rfl, g1, g2, ftok_ex x h3⟩, rfl⟩
  | ff t => obtain ⟨p, o, ea, h1, h2⟩ := r; exact ⟨⟨p, o, ea, x _ _ h1, ftok_ex x h2⟩, rfl⟩
theorem Rel.owned {K : PySem.W.Frag} {F H : Hp} {σ : St} {e : En} (R : Rel K F H σ e) {a : Addr} (h : Owned H σ e a) : F a = none ∧ ∃ o, H a = some o := by
  obtain ⟨i, v, w, h1, h2, h3⟩ := h
  obtain ⟨v', e1, r⟩ := R.at_ i w h1
  rw [h2] at e1
  cases e1
  exact rv_adr R.ex r h3
theorem rel_up2 {K : PySem.W.Frag} {F H F1 H1 : Hp} {σ : St} {e : En} (R : Rel K F H σ e) (x : Ex F F1) (x1 : Ex F1 H1) (f : ∀ p o, F p = none → H p = some o → Owned H σ e p → F1 p = none ∧ H1 p = some o) : Rel K F1 H1 σ e ∧ ∀ i a, Ow H1 σ e i a ↔ Ow H σ e i a := by
  have up : ∀ i v w, e[i]? = some (some w) → σ[i]? = some (some v) → RV K F1 H1 v w ∧ adr H1 v w = adr H v w := fun i v w h1 h2 => by
    obtain ⟨v', e1, r⟩ := R.at_ i w h1
    rw [h2] at e1
    cases e1
    exact rv_up R.ex x x1 r fun a ha o ho => f a o (rv_adr R.ex r ha).1 ho ⟨i, v, w, h1, h2, ha⟩
  have ow : ∀ i a, Ow H1 σ e i a ↔ Ow H σ e i a := fun i a =>
    ⟨fun ⟨v, w, h1, h2, h3⟩ => ⟨v, w, h1, h2, by rw [← (up i v w h1 h2).2]; exact h3⟩, fun ⟨v, w, h1, h2, h3⟩ => ⟨v, w, h1, h2, by rw [(up i v w h1 h2).2]; exact h3⟩⟩
  refine ⟨⟨x1, R.len, fun i w h => ?_, fun i j a h1 h2 => R.sep i j a ((ow i a).mp h1) ((ow j a).mp h2)⟩, ow⟩
  obtain ⟨v, e1, r⟩ := R.at_ i w h
  exact ⟨v, e1, (up i v w h e1).1⟩
theorem owned_iff {H H1 : Hp} {σ : St} {e : En} (h : ∀ i a, Ow H1 σ e i a ↔ Ow H σ e i a) {a : Addr} : Owned H1 σ e a ↔ Owned H σ e a :=
  ⟨fun ⟨i, q⟩ => ⟨i, (h i a).mp q⟩, fun ⟨i, q⟩ => ⟨i, (h i a).mpr q⟩⟩
/-- a caller's thing at a slot -/
def isBrw : Option (Option Wv) → Prop
  | some (some (.brw _)) => True
  | some (some (.bt _)) => True
  | _ => False
/-- from one state to a later one -/
structure Stp (σ : St) (e : En) (F H : Hp) (σ' : St) (e' : En) (F' H' : Hp) : Prop where
  sub : Ex F F'
  keep : ∀ a o, H a = some o → ¬ Owned H σ e a → H' a = some o
  shr : ∀ a, Owned H' σ' e' a → Owned H σ e a ∨ H a = none
  grow : ∀ a, F' a ≠ none → F a ≠ none ∨ Owned H σ e a ∨ H a = none
  pin : ∀ (i : Nat) xs, e[i]? = some (some (Wv.brw xs)) → σ'[i]? = σ[i]? ∧ ∃ ys, e'[i]? = some (some (Wv.brw ys))
  pin2 : ∀ (i : Nat) t, e[i]? = some (some (Wv.bt t)) → σ'[i]? = σ[i]? ∧ ∃ t', e'[i]? = some (some (Wv.bt t'))
  there : ∀ a, H a ≠ none → H' a ≠ none
theorem Stp.rfl' {σ : St} {e : En} {F H : Hp} : Stp σ e F H σ e F H where
  sub := fun _ _ h => h
  keep := fun _ _ h _ => h
  shr := fun _ h => .inl h
  grow := fun _ h => .inl h
  pin := fun _ xs h => ⟨rfl, xs, h⟩
  pin2 := fun _ xs h => ⟨rfl, xs, h⟩
  there := fun _ h => h
theorem Stp.tr {σ σ1 σ2 : St} {e e1 e2 : En} {F F1 F2 H H1 H2 : Hp} (s : Stp σ e F H σ1 e1 F1 H1) (t : Stp σ1 e1 F1 H1 σ2 e2 F2 H2) : Stp σ e F H σ2 e2 F2 H2 where
  sub := s.sub.tr t.sub
  keep := fun a o h n => t.keep a o (s.keep a o h n) fun q => by
    rcases s.shr a q with z | z
    · exact n z
    · rw [h] at z; cases z
  shr := fun a q => by
    rcases t.shr a q with z | z
    · exact s.shr a z
    · cases h : H a with
      | none => exact .inr rfl
      | some o => exact absurd z (s.there a (by rw [h]; exact fun q => nomatch q))
  grow := fun a q => by
    rcases t.grow a q with z | z | z
    · exact s.grow a z
    · exact .inr (s.shr a z)
    · refine .inr (.inr ?_)
      cases h : H a with
      | none => rfl
      | some o => exact absurd z (s.there a (by rw [h]; exact fun q => nomatch q))
  pin := fun i xs h => by
    obtain ⟨h1, ys, h2⟩ := s.pin i xs h
    obtain ⟨h3, zs, h4⟩ := t.pin i ys h2
    exact ⟨h3.trans h1, zs, h4⟩
  pin2 := fun i xs h => by
    obtain ⟨h1, ys, h2⟩ := s.pin2 i xs h
    obtain ⟨h3, zs, h4⟩ := t.pin2 i ys h2
    exact ⟨h3.trans h1, zs, h4⟩
  there := fun a h => t.there a (s.there a h)
/-- what a value is -/
def VV (K : PySem.W.Frag) (F H : Hp) (σ : St) (e : En) (v : V) : Wv → Prop
  | .d x => Dp K F v x
  | .own xs => (∃ p vs, v = .ref p ∧ F p = none ∧ H p = some (.lst vs) ∧ DpAll K F vs xs) ∧ ∀ p, v = .ref p → ¬ Owned H σ e p
  | .brw _ => False
  | .loc i => σ[i]? = some (some v)
  | .exc c => ∃ a, v = .ref a ∧ F a = some (ExH (cl K c) a)
  | .ot t => RV K F H v (.ot t) ∧ ∀ a ∈ oad H v t, ¬ Owned H σ e a
  | .bt _ => False
  | .fo t => RV K F H v (.fo t) ∧ ∀ p, v = .ref p → ¬ Owned H σ e p
  | .ff t => RV K F H v (.ff t)
section
variable {K : PySem.W.Frag} {F H F' H' : Hp} {σ σ' : St} {e e' : En} {v : V} {w : Wv}
theorem Stp.unown (s : Stp σ e F H σ' e' F' H') {p : Addr} {o : HO} (hp : H p = some o) (n : ¬ Owned H σ e p) : ¬ Owned H' σ' e' p := fun q => by
  rcases s.shr p q with z | z
  · exact n z
  · rw [hp] at z; cases z
theorem Stp.unfrozen (s : Stp σ e F H σ' e' F' H') {p : Addr} {o : HO} (hp : H p = some o) (n : ¬ Owned H σ e p) (hF : F p = none) : F' p = none := by
  cases q : F' p with
  | none => rfl
  | some u =>
    rcases s.grow p (by rw [q]; exact fun z => nomatch z) with z | z | z
    · exact absurd hF z
    · exact absurd z n
    · rw [hp] at z; cases z
/-- of a kind that a slot may have, the value is nobody's -/
theorem vv_iff (h1 : ∀ xs, w ≠ .brw xs) (h2 : ∀ t, w ≠ .bt t) (h3 : ∀ i, w ≠ .loc i) : VV K F H σ e v w ↔ RV K F H v w ∧ ∀ a ∈ adr H v w, ¬ Owned H σ e a := by
  have one : ∀ {p a : Addr}, a ∈ [p] → a = p := fun z => List.mem_singleton.mp z
  cases w with
  | d x => exact ⟨fun h => ⟨h, fun a z => by cases z⟩, fun h => h.1⟩
  | own xs =>
    refine ⟨fun h => ⟨h.1, fun a z => ?_⟩, fun h => ⟨h.1, fun p hp => h.2 p (by rw [hp]; exact List.mem_singleton.mpr rfl)⟩⟩
    obtain ⟨⟨p, vs, rfl, _⟩, n⟩ := h
    rw [one z]; exact n p rfl
  | fo t =>
    refine ⟨fun h => ⟨h.1, fun a z => ?_⟩, fun h => ⟨h.1, fun p hp => h.2 p (by rw [hp]; exact List.mem_singleton.mpr rfl)⟩⟩
    obtain ⟨⟨p, vs, rfl, _⟩, n⟩ := h
    rw [one z]; exact n p rfl
  | brw xs => exact absurd rfl (h1 xs)
  | bt t => exact absurd rfl (h2 t)
  | loc i => exact absurd rfl (h3 i)
  | exc c => exact ⟨fun h => ⟨h, fun a z => by cases z⟩, fun h => h.1⟩
  | ot t => exact Iff.rfl
  | ff t => exact ⟨fun h => ⟨h, fun a z => by cases z⟩, fun h => h.1⟩
theorem VV.mono (x0 : Ex F H) (x1 : Ex F' H') (s : Stp σ e F H σ e' F' H') (h : VV K F H σ e v w) : VV K F' H' σ e' v w := by
  have go : (∀ xs, w ≠ .brw xs) → (∀ t, w ≠ .bt t) → (∀ i, w ≠ .loc i) → VV K F' H' σ e' v w := fun n1 n2 n3 => by
    obtain ⟨r, n⟩ := (vv_iff n1 n2 n3).mp h
    obtain ⟨r', ea⟩ := rv_up x0 s.sub x1 r fun a ha o ho => ⟨s.unfrozen ho (n a ha) (rv_adr x0 r ha).1, s.keep a o ho (n a ha)⟩
    refine (vv_iff n1 n2 n3).mpr ⟨r', fun a ha => ?_⟩
    rw [ea] at ha
    obtain ⟨_, o, ho⟩ := rv_adr x0 r ha
    exact s.unown ho (n a ha)
  cases w with
  | brw xs => exact h.elim
  | bt xs => exact h.elim
  | loc i => exact h
  | _ => exact go (fun _ => nofun) (fun _ => nofun) (fun _ => nofun)
/-- to read -/
def rs (e : En) : Wv → Option PyData
  | .d x => some x
  | .own xs => some (.list xs)
  | .brw xs => some (.list xs)
  | .loc i => match e[i]? with
    | some (some (.d x)) => some x
    | some (some (.own xs)) => some (.list xs)
    | some (some (.brw xs)) => some (.list xs)
    | _ => none
  | _ => none
theorem rs_ok (R : Rel K F H σ e) (h : VV K F H σ e v w) {x : PyData} (q : rs e w = some x) : Dp K H v x := by
  cases w with
  | d y =>
    cases q
    exact dp_ex R.ex _ _ h
  | own xs =>
    cases q
    obtain ⟨⟨p, vs, rfl, h1, h2, h3⟩, _⟩ := h
    exact .lst (SqL.of h2) (dpa_ex R.ex _ _ h3)
  | brw xs => exact h.elim
  | loc i =>
    have hv : σ[i]? = some (some v) := h
    have q : (match e[i]? with
      | some (some (.d x)) => some x
      | some (some (.own xs)) => some (PyData.list xs)
      | some (some (.brw xs)) => some (PyData.list xs)
      | _ => none) = some x := q
    have lst : ∀ xs : List PyData, (∃ p vs, v = .ref p ∧ F p = none ∧ H p = some (.lst vs) ∧ DpAll K F vs xs) → Dp K H v (.list xs) := fun xs ⟨p, vs, e1, _, h2, h3⟩ => by
      rw [e1]
      exact .lst (SqL.of h2) (dpa_ex R.ex _ _ h3)
    cases he : e[i]? with
    | none => rw [he] at q; cases q
    | some o =>
      cases o with
      | none => rw [he] at q; cases q
      | some w =>
        obtain ⟨v', e1, r⟩ := R.at_ i w he
        rw [hv] at e1
        cases e1
        rw [he] at q
        cases w with
        | d y => cases q; exact dp_ex R.ex _ _ r
        | own xs => cases q; exact lst xs r
        | brw xs => cases q; exact lst xs r
        | _ => cases q
  | _ => cases q
/-- to hand on for good: a list that a slot names alone stays from now on as it is -/
def es (e : En) : Wv → Option (PyData × En)
  | .d x => some (x, e)
  | .own xs => some (.list xs, e)
  | .ot t => some (toD t, e)
  | .loc i => match e[i]? with
    | some (some (.d x)) => some (x, e)
    | some (some (.own xs)) => some (.list xs, e.set i (some (.d (.list xs))))
    | some (some (.ot t)) => some (toD t, e.set i (some (.d (toD t))))
    | _ => none
  | _ => none
theorem getSet {α : Type} {l : List α} {i j : Nat} {a b : α} (h : (l.set i a)[j]? = some b) : (j = i ∧ b = a) ∨ (j ≠ i ∧ l[j]? = some b) := by
  by_cases e : j = i
  · subst e
    by_cases hl : j < l.length
    · rw [List.getElem?_set_self hl] at h
      exact .inl ⟨rfl, (Option.some.inj h).symm⟩
    · rw [List.getElem?_eq_none (by simpa using hl)] at h
      cases h
  · rw [List.getElem?_set_ne (Ne.symm e)] at h
    exact .inr ⟨e, h⟩
theorem ow_set {o : Option Wv} {i j : Nat} {a : Addr} (h : Ow H σ (e.set i o) j a) : (j = i ∧ ∃ w v, o = some w ∧ σ[i]? = some (some v) ∧ a ∈ adr H v w) ∨ (j ≠ i ∧ Ow H σ e j a) := by
  obtain ⟨v, w, h1, h2, h3⟩ := h
  rcases getSet h1 with ⟨rfl, z⟩ | ⟨n, z⟩
  · exact .inl ⟨rfl, w, v, z.symm, h2, h3⟩
  · exact .inr ⟨n, v, w, z, h2, h3⟩
/-- a slot whose things are nobody's any more -/
theorem ow_set_no {o : Option Wv} (ho : ∀ w v, o = some w → adr H v w = []) {i j : Nat} {a : Addr} (h : Ow H σ (e.set i o) j a) : j ≠ i ∧ Ow H σ e j a := by
  rcases ow_set h with ⟨_, w, v, h1, _, h3⟩ | z
  · rw [ho w v h1] at h3; cases h3
  · exact z
theorem no_d {x : PyData} : ∀ w v, some (Wv.d x) = some w → adr H v w = [] := fun w v h => by cases h; rfl
theorem ow_set_d {x : PyData} {i j : Nat} {a : Addr} (h : Ow H σ (e.set i (some (.d x))) j a) : j ≠ i ∧ Ow H σ e j a := ow_set_no no_d h
theorem owned_set_d {x : PyData} {i : Nat} {a : Addr} (h : Owned H σ (e.set i (some (.d x))) a) : Owned H σ e a := by
  obtain ⟨j, h⟩ := h
  exact ⟨j, (ow_set_d h).2⟩
/-- more stays as it is, nothing of a slot's -/
theorem rel_frz (R : Rel K F H σ e) {F1 : Hp} (x : Ex F F1) (x1 : Ex F1 H) (n : ∀ a, F1 a ≠ none → F a ≠ none ∨ ¬ Owned H σ e a) : Rel K F1 H σ e :=
  (rel_up2 R x x1 fun p o h1 h2 h3 => ⟨by
    cases q : F1 p with
    | none => rfl
    | some u =>
      rcases n p (by rw [q]; exact fun z => nomatch z) with z | z
      · exact absurd h1 z
      · exact absurd h3 z, h2⟩).1
/-- a slot's own thing is made to stay -/
theorem rel_fix (R : Rel K F H σ e) {i : Nat} {w : Wv} {v : V} {x : PyData} {F1 : Hp} (he : e[i]? = some (some w)) (hv : σ[i]? = some (some v)) (h1 : Ex F F1) (h2 : Ex F1 H) (n : ∀ a, F1 a ≠ none → F a ≠ none ∨ a ∈ adr H v w) (h3 : Dp K F1 v x) :
    Rel K F1 H σ (e.set i (some (.d x))) where
  ex := h2
  len := by rw [List.length_set]; exact R.len
  at_ := fun j w' hj => by
    rcases getSet hj with ⟨rfl, q⟩ | ⟨nj, hj⟩
    · cases q
      exact ⟨v, hv, h3⟩
    · obtain ⟨v', e1, r⟩ := R.at_ j w' hj
      refine ⟨v', e1, (rv_up R.ex h1 h2 r fun a ha o ho => ⟨?_, ho⟩).1⟩
      cases q : F1 a with
      | none => rfl
      | some u =>
        rcases n a (by rw [q]; exact fun z => nomatch z) with z | z
        · exact absurd (rv_adr R.ex r ha).1 z
        · exact absurd (R.sep j i a ⟨v', w', hj, e1, ha⟩ ⟨v, w, he, hv, z⟩) nj
  sep := fun j k q oj ok => R.sep j k q (ow_set_d oj).2 (ow_set_d ok).2
theorem stp_fix {i : Nat} {w : Wv} {v : V} {x : PyData} {F1 : Hp} (he : e[i]? = some (some w)) (hv : σ[i]? = some (some v)) (n1 : ∀ xs, w ≠ .brw xs) (n2 : ∀ t, w ≠ .bt t) (h1 : Ex F F1) (n : ∀ a, F1 a ≠ none → F a ≠ none ∨ a ∈ adr H v w) :
    Stp σ e F H σ (e.set i (some (.d x))) F1 H where
  sub := h1
  keep := fun _ _ z _ => z
  shr := fun a z => .inl (owned_set_d z)
  grow := fun a z => by
    rcases n a z with z | z
    · exact .inl z
    · exact .inr (.inl ⟨i, v, w, he, hv, z⟩)
  pin := fun j ys z => ⟨rfl, ys, by
    have nj : i ≠ j := fun z2 => by subst z2; rw [he] at z; exact n1 ys (Option.some.inj (Option.some.inj z))
    rw [List.getElem?_set_ne nj]; exact z⟩
  pin2 := fun j ys z => ⟨rfl, ys, by
    have nj : i ≠ j := fun z2 => by subst z2; rw [he] at z; exact n2 ys (Option.some.inj (Option.some.inj z))
    rw [List.getElem?_set_ne nj]; exact z⟩
  there := fun _ z => z
/-- what a value names alone is new: the heap H ahead of it did not have it (H' is the heap now) -/
def Nw (H H' : Hp) (v : V) : Wv → Prop
  | .own _ => ∀ p, v = V.ref p → H p = none
  | .fo _ => ∀ p, v = V.ref p → H p = none
  | .ot t => ∀ a ∈ oad H' v t, H a = none
  | _ => True
theorem nw_iff (h1 : ∀ xs, w ≠ .brw xs) (h2 : ∀ t, w ≠ .bt t) : Nw H H' v w ↔ ∀ a ∈ adr H' v w, H a = none := by
  have one : (∀ p, v = V.ref p → H p = none) ↔ ∀ a ∈ (match v with
    | .ref p => [p]
    | _ => []), H a = none := by
    cases v with
    | ref p => exact ⟨fun h a ha => by rw [List.mem_singleton.mp ha]; exact h p rfl, fun h q hq => by cases hq; exact h p (List.mem_singleton.mpr rfl)⟩
    | _ => exact ⟨fun h a ha => (by cases ha), fun h q hq => (by cases hq)⟩
  cases w with
  | own xs => exact one
  | fo t => exact one
  | ot t => exact Iff.rfl
  | brw xs => exact absurd rfl (h1 xs)
  | bt xs => exact absurd rfl (h2 xs)
  | _ => exact ⟨fun _ a ha => (by cases ha), fun _ => trivial⟩
theorem vv_adr (x0 : Ex F H) (V : VV K F H σ e v w) {a : Addr} (ha : a ∈ adr H v w) : F a = none ∧ (∃ o, H a = some o) ∧ ¬ Owned H σ e a := by
  have go : (∀ xs, w ≠ .brw xs) → (∀ t, w ≠ .bt t) → (∀ i, w ≠ .loc i) → F a = none ∧ (∃ o, H a = some o) ∧ ¬ Owned H σ e a := fun n1 n2 n3 => by
    obtain ⟨r, n⟩ := (vv_iff n1 n2 n3).mp V
    exact ⟨(rv_adr x0 r ha).1, (rv_adr x0 r ha).2, n a ha⟩
  cases w with
  | brw xs => exact V.elim
  | bt t => exact V.elim
  | loc i => cases ha
  | _ => exact go (fun _ => nofun) (fun _ => nofun) (fun _ => nofun)
theorem vv_same (x0 : Ex F H) (x1 : Ex F' H') (s : Stp σ e F H σ e' F' H') (V : VV K F H σ e v w) : adr H' v w = adr H v w := by
  have go : (∀ xs, w ≠ .brw xs) → (∀ t, w ≠ .bt t) → (∀ i, w ≠ .loc i) → adr H' v w = adr H v w := fun n1 n2 n3 => by
    obtain ⟨r, n⟩ := (vv_iff n1 n2 n3).mp V
    exact (rv_up x0 s.sub x1 r fun a ha o ho => ⟨s.unfrozen ho (n a ha) (rv_adr x0 r ha).1, s.keep a o ho (n a ha)⟩).2
  cases w with
  | brw xs => exact V.elim
  | bt t => exact V.elim
  | loc i => rfl
  | _ => exact go (fun _ => nofun) (fun _ => nofun) (fun _ => nofun)
theorem es_ok {e1 e2 : En} {F1 H1 : Hp} (S : Stp σ e F H σ e1 F1 H1) (R : Rel K F1 H1 σ e1) (h : VV K F1 H1 σ e1 v w) (n : Nw H H1 v w) {x : PyData} (q : es e1 w = some (x, e2)) :
    ∃ F2, Rel K F2 H1 σ e2 ∧ Stp σ e F H σ e2 F2 H1 ∧ Dp K F2 v x := by
  -- a value that is nobody's
  have free : ∀ F2, Ex F1 F2 → Ex F2 H1 → (∀ a, F2 a ≠ none → F1 a ≠ none ∨ a ∈ adr H1 v w) → Rel K F2 H1 σ e1 ∧ Stp σ e F H σ e1 F2 H1 := fun F2 g1 g2 g3 =>
    ⟨rel_frz R g1 g2 fun a z => (g3 a z).imp id fun z => (vv_adr R.ex h z).2.2, ⟨S.sub.tr g1, S.keep, S.shr, fun a z => by
      rcases g3 a z with z | z
      · exact S.grow a z
      · exact .inr (.inr ((nw_iff (fun xs e => by subst e; exact h) (fun t e => by subst e; exact h)).mp n a z)), S.pin, S.pin2, S.there⟩⟩
  have lst : ∀ {p : Addr} {vs : List V} {xs : List PyData}, F1 p = none → H1 p = some (.lst vs) → DpAll K F1 vs xs → Ex F1 (upd F1 p (.lst vs)) ∧ Ex (upd F1 p (.lst vs)) H1 ∧ (∀ a, upd F1 p (.lst vs) a ≠ none → F1 a ≠ none ∨ a ∈ [p]) ∧ Dp K (upd F1 p (.lst vs)) (.ref p) (.list xs) := fun {p vs xs} h1 h2 h3 =>
    ⟨Ex.new h1, fun a o z => by
      by_cases ha : a = p
      · subst ha; rw [upd_same] at z; cases z; exact h2
      · rw [upd_ne ha] at z; exact R.ex a o z, fun a z => by
      by_cases ha : a = p
      · rw [ha]; exact .inr List.mem_cons_self
      · rw [upd_ne ha] at z; exact .inl z, .lst (SqL.of upd_same) (dpa_ex (Ex.new h1) _ _ h3)⟩
  cases w with
  | d y => cases q; exact ⟨F1, R, S, h⟩
  | own xs =>
    cases q
    obtain ⟨⟨p, vs, rfl, h1, h2, h3⟩, no⟩ := h
    obtain ⟨g1, g2, g3, g4⟩ := lst h1 h2 h3
    obtain ⟨g5, g6⟩ := free _ g1 g2 g3
    exact ⟨_, g5, g6, g4⟩
  | ot t =>
    cases q
    obtain ⟨F2, g1, g2, g3, g4⟩ := otd_frz t v F1 (Ex.rfl' F1) R.ex h.1.1
    obtain ⟨g5, g6⟩ := free _ g1 g2 g3
    exact ⟨_, g5, g6, g4⟩
  | loc i =>
    have hv : σ[i]? = some (some v) := h
    have q : (match e1[i]? with
      | some (some (.d x)) => some (x, e1)
      | some (some (.own xs)) => some (PyData.list xs, e1.set i (some (.d (.list xs))))
      | some (some (.ot t)) => some (toD t, e1.set i (some (.d (toD t))))
      | _ => none) = some (x, e2) := q
    cases he : e1[i]? with
    | none => rw [he] at q; cases q
    | some o =>
      cases o with
      | none => rw [he] at q; cases q
      | some w =>
        obtain ⟨v', ev, r⟩ := R.at_ i w he
        rw [hv] at ev
        cases ev
        rw [he] at q
        cases w with
        | d y => cases q; exact ⟨F1, R, S, r⟩
        | own xs =>
          cases q
          obtain ⟨p, vs, rfl, h1, h2, h3⟩ := r
          obtain ⟨g1, g2, g3, g4⟩ := lst h1 h2 h3
          exact ⟨_, rel_fix R he hv g1 g2 g3 g4, S.tr (stp_fix he hv (fun _ => nofun) (fun _ => nofun) g1 g3), g4⟩
        | ot t =>
          cases q
          obtain ⟨F2, g1, g2, g3, g4⟩ := otd_frz t v F1 (Ex.rfl' F1) R.ex r.1
          exact ⟨_, rel_fix R he hv g1 g2 g3 g4, S.tr (stp_fix he hv (fun _ => nofun) (fun _ => nofun) g1 g3), g4⟩
        | _ => cases q
  | _ => cases q
/-! ### what an expression does -/
inductive Rs where
  | ok (w : Wv) (e : En)
  | err (c : Str) (e : En)
  | bad
abbrev DE := En → Rs
def bnd (r : Rs) (k : Wv → En → Rs) : Rs := match r with
  | .ok w e => k w e
  | .err c e => .err c e
  | .bad => .bad
/-- from the state e, F, H: what is wanted of a value -/
def Go (K : PySem.W.Frag) (W : WX) (r : Rs) (σ : St) (e : En) (F H : Hp) (Q : VK) : Prop := match r with
  | .ok w e' => ∀ v H' F', Rel K F' H' σ e' → Stp σ e F H σ e' F' H' → VV K F' H' σ e' v w → Nw H H' v w → Q v H'
  | .err c e' => ∀ H' F', Rel K F' H' σ e' → Stp σ e F H σ e' F' H' → W (cl K c) none σ H'
  | .bad => False
/-- the reading of an expression -/
def tD (K : PySem.W.Frag) (W : WX) (f : DE) : TE := fun σ H Q => ∃ F e, Rel K F H σ e ∧ Go K W (f e) σ e F H Q
theorem Go.imp {W : WX} {r : Rs} {Q Q' : VK} (h : Go K W r σ e F H Q) (k : ∀ v H', Q v H' → Q' v H') : Go K W r σ e F H Q' := by
  cases r with
  | ok w e' => exact fun v H' F' a b c d => k _ _ (h v H' F' a b c d)
  | err c e' => exact h
  | bad => exact h
/-- one after the other -/
theorem Go.bnd {W : WX} {r : Rs} {k : Wv → En → Rs} {Q : VK} (h : Go K W (bnd r k) σ e F H Q) :
    Go K W r σ e F H fun v H1 => ∃ F1 e1 w1, Rel K F1 H1 σ e1 ∧ Stp σ e F H σ e1 F1 H1 ∧ VV K F1 H1 σ e1 v w1 ∧ Nw H H1 v w1 ∧ Go K W (k w1 e1) σ e F H Q := by
  cases r with
  | ok w1 e1 => exact fun v H1 F1 R S V N => ⟨F1, e1, w1, R, S, V, N, h⟩
  | err c e1 => exact h
  | bad => exact h
theorem Nw.back {H1 : Hp} (t : ∀ a, H a ≠ none → H1 a ≠ none) (h : Nw H1 H' v w) : Nw H H' v w := by
  have go : ∀ a, H1 a = none → H a = none := fun a ha => by
    cases q : H a with
    | none => rfl
    | some o => exact absurd ha (t a (by rw [q]; exact fun z => nomatch z))
  cases w with
  | own xs => exact fun p hp => go p (h p hp)
  | fo xs => exact fun p hp => go p (h p hp)
  | ot t => exact fun p hp => go p (h p hp)
  | _ => trivial
theorem Nw.fwd {H0 : Hp} (x0 : Ex F H) (x1 : Ex F' H') (s : Stp σ e F H σ e' F' H') (V : VV K F H σ e v w) (h : Nw H0 H v w) : Nw H0 H' v w := by
  cases w with
  | own xs => exact h
  | fo xs => exact h
  | ot t =>
    have q : oad H' v t = oad H v t := vv_same x0 x1 s V
    intro a ha
    rw [q] at ha
    exact h a ha
  | _ => trivial
theorem Go.later {W : WX} {r : Rs} {Q : VK} {e1 : En} {F1 H1 : Hp} (S : Stp σ e F H σ e1 F1 H1) (h : Go K W r σ e F H Q) : Go K W r σ e1 F1 H1 Q := by
  cases r with
  | ok w e' => exact fun v H' F' a b c d => h v H' F' a (S.tr b) c (d.back S.there)
  | err c e' => exact fun H' F' a b => h H' F' a (S.tr b)
  | bad => exact h
end
end Vf
/-! Expressions: what each does to slots and values. -/
namespace Vf
open PySem PySem.Spec L2
open PyProof.Rows hiding St
theorem PE.to {X : Cx} {e : Expr} {t t' : TE} (h : PE X e t) (k : ∀ σ H Q, t' σ H Q → t σ H Q) : PE X e t' :=
  ⟨fun pins s σ H Q I q => h.run pins s σ H Q I (k σ H Q q)⟩
theorem PA.to {X : Cx} {es : List Expr} {t t' : TA} (h : PA X es t) (k : ∀ σ H Q, t' σ H Q → t σ H Q) : PA X es t' :=
  ⟨fun pos pins s σ H Q I q => h.run pos pins s σ H Q I (k σ H Q q)⟩
theorem PT.to {X : Cx} {e : Expr} {t t' : TT} (h : PT X e t) (k : ∀ σ H Q, t' σ H Q → t σ H Q) : PT X e t' :=
  ⟨fun pins s σ H Q I q => h.run pins s σ H Q I (k σ H Q q)⟩
section
variable {K : PySem.W.Frag} {F H F' H' : Hp} {σ σ' : St} {e e' : En} {v : V} {w : Wv} {W : WX}
/-- a value that is read: a list as it stands now, all else as it stays -/
def DH (K : PySem.W.Frag) (F H : Hp) (v : V) : PyData → Prop
  | .list xs => ∃ a vs, v = V.ref a ∧ SqL K H a vs ∧ DpAll K F vs xs
  | x => Dp K F v x
theorem DH.dp (x : Ex F H) {y : PyData} (h : DH K F H v y) : Dp K H v y := by
  cases y with
  | list xs =>
    obtain ⟨a, vs, rfl, h1, h2⟩ := h
    exact .lst h1 (dpa_ex x _ _ h2)
  | _ => exact dp_ex x _ _ h
theorem dh_of (x : Ex F H) {y : PyData} (h : Dp K F v y) : DH K F H v y := by
  cases y with
  | list xs =>
    obtain ⟨a, vs, rfl, h1, h2⟩ := dp_list_ref h
    exact ⟨a, vs, rfl, sql_ex x h1, h2⟩
  | _ => exact h
theorem rs_dh (R : Rel K F H σ e) (h : VV K F H σ e v w) {x : PyData} (q : rs e w = some x) : DH K F H v x := by
  have lst : ∀ xs : List PyData, (∃ p vs, v = V.ref p ∧ F p = none ∧ H p = some (.lst vs) ∧ DpAll K F vs xs) → DH K F H v (.list xs) := fun xs ⟨p, vs, e1, _, h2, h3⟩ => ⟨p, vs, e1, SqL.of h2, h3⟩
  cases w with
  | d y => cases q; exact dh_of R.ex h
  | own xs => cases q; exact lst xs h.1
  | brw xs => exact h.elim
  | loc i =>
    have hv : σ[i]? = some (some v) := h
    have q : (match e[i]? with
      | some (some (.d x)) => some x
      | some (some (.own xs)) => some (PyData.list xs)
      | some (some (.brw xs)) => some (PyData.list xs)
      | _ => none) = some x := q
    cases he : e[i]? with
    | none => rw [he] at q; cases q
    | some o =>
      cases o with
      | none => rw [he] at q; cases q
      | some w =>
        obtain ⟨v', e1, r⟩ := R.at_ i w he
        rw [hv] at e1
        cases e1
        rw [he] at q
        cases w with
        | d y => cases q; exact dh_of R.ex r
        | own xs => cases q; exact lst xs r
        | brw xs => cases q; exact lst xs r
        | _ => cases q
  | _ => cases q
/-- what an operation may hand back: data that is there, a new tuple, a new list -/
def New (K : PySem.W.Frag) (F H : Hp) (v : V) (w : Wv) (H' : Hp) : Prop := match w with
  | .d z => (H' = H ∧ Dp K F v z) ∨ ∃ p vs zs, v = V.ref p ∧ H p = none ∧ H' = upd H p (.tup vs) ∧ z = .tuple zs ∧ DpAll K F vs zs
  | .own zs => ∃ p vs, v = V.ref p ∧ H p = none ∧ H' = upd H p (.lst vs) ∧ DpAll K F vs zs
  | _ => False
theorem ex_none (x : Ex F H) {p : Addr} (h : H p = none) : F p = none := by
  cases q : F p with
  | none => rfl
  | some o => rw [x p o q] at h; cases h
theorem Rel.notOwned (R : Rel K F H σ e) {p : Addr} (h : H p = none) : ¬ Owned H σ e p := fun o => by
  obtain ⟨_, u, hu⟩ := R.owned o
  rw [h] at hu
  cases hu
theorem rel_up (R : Rel K F H σ e) {H1 F1 : Hp} (x : Ex F F1) (x1 : Ex F1 H1) (f : ∀ p o, F p = none → H p = some o → Owned H σ e p → F1 p = none ∧ H1 p = some o) : Rel K F1 H1 σ e := (rel_up2 R x x1 f).1
theorem owned_up (R : Rel K F H σ e) {H1 F1 : Hp} (x : Ex F F1) (x1 : Ex F1 H1) (f : ∀ p o, F p = none → H p = some o → Owned H σ e p → F1 p = none ∧ H1 p = some o) {a : Addr} : Owned H1 σ e a ↔ Owned H σ e a := owned_iff (rel_up2 R x x1 f).2
/-- a new object, that stays or not -/
theorem rel_new (R : Rel K F H σ e) {p : Addr} {o : HO} (hp : H p = none) {F1 : Hp} (x : Ex F F1) (n : ∀ a u, F1 a = some u → F a = some u ∨ (a = p ∧ u = o)) : Rel K F1 (upd H p o) σ e ∧ Stp σ e F H σ e F1 (upd H p o) ∧ ∀ a, Owned (upd H p o) σ e a → Owned H σ e a := by
  have x1 : Ex F1 (upd H p o) := fun a u q => by
    rcases n a u q with z | ⟨z1, z2⟩
    · exact Ex.new hp a u (R.ex a u z)
    · rw [z1, z2]; exact upd_same
  have f : ∀ q u, F q = none → H q = some u → Owned H σ e q → F1 q = none ∧ upd H p o q = some u := fun q u h1 h2 _ => by
    have nq : q ≠ p := ne_of_none h2 hp
    refine ⟨?_, by rw [upd_ne nq]; exact h2⟩
    cases z : F1 q with
    | none => rfl
    | some y =>
      rcases n q y z with z | ⟨z, _⟩
      · rw [h1] at z; cases z
      · exact absurd z nq
  refine ⟨rel_up R x x1 f, ⟨x, fun a u q _ => Ex.new hp a u q, fun a q => .inl ((owned_up R x x1 f).mp q), fun a q => ?_, fun i xs q => ⟨rfl, xs, q⟩, fun i xs q => ⟨rfl, xs, q⟩, fun a q => ?_⟩, fun a q => (owned_up R x x1 f).mp q⟩
  · cases z : F1 a with
    | none => exact absurd z q
    | some u =>
      rcases n a u z with z | ⟨z, _⟩
      · exact .inl (by rw [z]; exact fun y => nomatch y)
      · rw [z]; exact .inr (.inr hp)
  · by_cases ha : a = p
    · rw [ha, upd_same]; exact fun z => nomatch z
    · rw [upd_ne ha]; exact q
theorem rel_newF (R : Rel K F H σ e) {p : Addr} {o : HO} (hp : H p = none) : Rel K (upd F p o) (upd H p o) σ e ∧ Stp σ e F H σ e (upd F p o) (upd H p o) ∧ ∀ a, Owned (upd H p o) σ e a → Owned H σ e a :=
  rel_new R hp (Ex.new (ex_none R.ex hp)) fun a u q => by
    by_cases ha : a = p
    · subst ha; rw [upd_same] at q; exact .inr ⟨rfl, (Option.some.inj q).symm⟩
    · rw [upd_ne ha] at q; exact .inl q
theorem rel_newO (R : Rel K F H σ e) {p : Addr} {o : HO} (hp : H p = none) : Rel K F (upd H p o) σ e ∧ Stp σ e F H σ e F (upd H p o) ∧ ∀ a, Owned (upd H p o) σ e a → Owned H σ e a :=
  rel_new R hp (Ex.rfl' F) fun a u q => .inl q
theorem new_ok (R : Rel K F H σ e) (n : New K F H v w H') : ∃ F', Rel K F' H' σ e ∧ Stp σ e F H σ e F' H' ∧ VV K F' H' σ e v w ∧ Nw H H' v w := by
  cases w with
  | d z =>
    rcases n with ⟨rfl, h⟩ | ⟨p, vs, zs, rfl, hp, rfl, rfl, h⟩
    · exact ⟨F, R, Stp.rfl', h, trivial⟩
    · have fp := ex_none R.ex hp
      obtain ⟨g1, g2, g3⟩ := rel_newF (o := .tup vs) R hp
      exact ⟨_, g1, g2, .tup (SqT.of upd_same) (dpa_ex (Ex.new fp) _ _ h), trivial⟩
  | own zs =>
    obtain ⟨p, vs, rfl, hp, rfl, h⟩ := n
    have fp := ex_none R.ex hp
    obtain ⟨g1, g2, g3⟩ := rel_newO (o := .lst vs) R hp
    refine ⟨F, g1, g2, ⟨⟨p, vs, rfl, fp, upd_same, h⟩, fun q hq z => ?_⟩, fun q hq => ?_⟩
    · cases hq; exact R.notOwned hp (g3 _ z)
    · cases hq; exact hp
  | _ => exact n.elim
/-- an operation's end, from the state where its operands are there -/
theorem Go.new {Q : VK} {F0 H0 : Hp} {e0 : En} (h : Go K W (.ok w e) σ e0 F0 H0 Q) (S : Stp σ e0 F0 H0 σ e F H) (R : Rel K F H σ e) : ∀ v H', New K F H v w H' → Q v H' := fun v H' n => by
  obtain ⟨F', R', S', V', N'⟩ := new_ok R n
  exact h v H' F' R' (S.tr S') V' (N'.back S.there)
def optR (o : Option Wv) (e : En) : Rs := match o with
  | some z => .ok z e
  | none => .bad
theorem Go.opt {Q : VK} {F0 H0 : Hp} {e0 : En} {o : Option Wv} (h : Go K W (optR o e) σ e0 F0 H0 Q) : ∃ z, o = some z ∧ Go K W (.ok z e) σ e0 F0 H0 Q := by
  cases o with
  | none => exact h.elim
  | some z => exact ⟨z, rfl, h⟩
/-! ### names, constants -/
def dName (i : Nat) : DE := fun e => match e[i]? with
  | some (some (.d x)) => .ok (.d x) e
  | some (some (.own _)) => .ok (.loc i) e
  | some (some (.brw _)) => .ok (.loc i) e
  | some (some (.exc c)) => .ok (.exc c) e
  | some (some (.ff t)) => .ok (.ff t) e
  | some (some (.ot _)) => .ok (.loc i) e
  | some (some (.bt _)) => .ok (.loc i) e
  | some (some (.fo _)) => .ok (.loc i) e
  | _ => .bad
theorem go_name {Q : VK} {i : Nat} (R : Rel K F H σ e) (h : Go K W (dName i e) σ e F H Q) : tVar i σ H Q := by
  unfold dName at h
  cases he : e[i]? with
  | none => rw [he] at h; exact h.elim
  | some o =>
    cases o with
    | none => rw [he] at h; exact h.elim
    | some w =>
      obtain ⟨v, e1, r⟩ := R.at_ i w he
      rw [he] at h
      refine ⟨v, e1, ?_⟩
      cases w with
      | d x => exact h v H F R Stp.rfl' r trivial
      | own xs => exact h v H F R Stp.rfl' e1 trivial
      | brw xs => exact h v H F R Stp.rfl' e1 trivial
      | exc c => exact h v H F R Stp.rfl' r trivial
      | ff t => exact h v H F R Stp.rfl' r trivial
      | ot t => exact h v H F R Stp.rfl' e1 trivial
      | bt t => exact h v H F R Stp.rfl' e1 trivial
      | fo t => exact h v H F R Stp.rfl' e1 trivial
      | loc j => exact h.elim
def dC (x : PyData) : DE := fun e => .ok (.d x) e
end
section
variable {X : Cx} {W : WX} {a b : Expr} {f g : DE} {pos : Pos}
theorem pd_name {x : Str} {i : Nat} (h : PE X (.Name x pos) (tVar i)) : PE X (.Name x pos) (tD X.K W (dName i)) :=
  PE.to h fun σ H Q ⟨F, e, R, q⟩ => go_name R q
theorem pd_c {v : V} {x : PyData} (h : PE X a (tC v)) (hx : ∀ F, Dp X.K F v x) : PE X a (tD X.K W (dC x)) :=
  PE.to h fun σ H Q ⟨F, e, R, q⟩ => q v H F R Stp.rfl' (hx F) trivial
/-! ### operations that read -/
/-- two operands -/
def dU2 (op : PyData → PyData → Option Wv) (f g : DE) : DE := fun e => bnd (f e) fun w1 e1 => bnd (g e1) fun w2 e2 =>
  optR ((rs e2 w1).bind fun x => (rs e2 w2).bind fun y => op x y) e2
abbrev Op2 (K : PySem.W.Frag) (op : PyData → PyData → Option Wv) (r : R2) : Prop := ∀ (F H : Hp) (v1 v2 : V) (x y : PyData) (w : Wv) (Q : VK), Ex F H → DH K F H v1 x → DH K F H v2 y → op x y = some w → (∀ v H', New K F H v w H' → Q v H') → r v1 v2 H Q
theorem u2 {op : PyData → PyData → Option Wv} {r : R2} (hr : Op2 X.K op r) : ∀ σ H Q, tD X.K W (dU2 op f g) σ H Q → tOp r (tD X.K W f) (tD X.K W g) σ H Q := by
  rintro σ H Q ⟨F, e, R, h⟩
  refine ⟨F, e, R, h.bnd.imp ?_⟩
  rintro v1 H1 ⟨F1, e1, w1, R1, S1, V1, N1, h1⟩
  refine ⟨F1, e1, R1, (h1.later S1).bnd.imp ?_⟩
  rintro v2 H2 ⟨F2, e2, w2, R2, S2, V2, N2, h2⟩
  obtain ⟨z, qz, h2⟩ := h2.opt
  obtain ⟨x, q1, qz⟩ := Option.bind_eq_some_iff.mp qz
  obtain ⟨y, q2, qz⟩ := Option.bind_eq_some_iff.mp qz
  exact hr F2 H2 v1 v2 x y z Q R2.ex (rs_dh R2 (V1.mono R1.ex R2.ex S2) q1) (rs_dh R2 V2 q2) qz (Go.new h2 S2 R2)
theorem pd_op {o : Operator} {op : PyData → PyData → Option Wv} {r : R2} (ho : OpR X (binaryOp o) r) (hr : Op2 X.K op r) (ha : PE X a (tD X.K W f)) (hb : PE X b (tD X.K W g)) :
    PE X (.BinOp a o b pos) (tD X.K W (dU2 op f g)) := PE.to (pe_op ho ha hb) (u2 hr)
theorem pd_cmp {o : CmpOp} {op : PyData → PyData → Option Wv} {r : R2} (ho : OpR X (compareOp o) r) (hr : Op2 X.K op r) (ha : PE X a (tD X.K W f)) (hb : PE X b (tD X.K W g)) (hm : behindInMarks o b = false) :
    PE X (.Compare a [o] [b] pos) (tD X.K W (dU2 op f g)) := PE.to (pe_cmpR ho ha hb hm) (u2 hr)
theorem pd_ix {op : PyData → PyData → Option Wv} {r : R2} (ho : IxR X r) (hr : Op2 X.K op r) (ha : PE X a (tD X.K W f)) (hb : PE X b (tD X.K W g)) (hs : PlainIx b) :
    PE X (.Subscript a b pos) (tD X.K W (dU2 op f g)) := PE.to (pe_ix ho ha hb hs) (u2 hr)
/-- one operand -/
def dU1 (op : PyData → Option Wv) (f : DE) : DE := fun e => bnd (f e) fun w1 e1 => optR ((rs e1 w1).bind op) e1
abbrev Op1 (K : PySem.W.Frag) (op : PyData → Option Wv) (r : V → Hp → VK → Prop) : Prop := ∀ (F H : Hp) (v1 : V) (x : PyData) (w : Wv) (Q : VK), Ex F H → DH K F H v1 x → op x = some w → (∀ v H', New K F H v w H' → Q v H') → r v1 H Q
theorem u1 {op : PyData → Option Wv} {r : V → Hp → VK → Prop} (hr : Op1 X.K op r) : ∀ σ H Q, tD X.K W (dU1 op f) σ H Q → tUn r (tD X.K W f) σ H Q := by
  rintro σ H Q ⟨F, e, R, h⟩
  refine ⟨F, e, R, h.bnd.imp ?_⟩
  rintro v1 H1 ⟨F1, e1, w1, R1, S1, V1, N1, h1⟩
  obtain ⟨z, qz, h1⟩ := h1.opt
  obtain ⟨x, q1, qz⟩ := Option.bind_eq_some_iff.mp qz
  exact hr F1 H1 v1 x z Q R1.ex (rs_dh R1 V1 q1) qz (Go.new h1 S1 R1)
theorem pd_un {o : UnaryOp} {op : PyData → Option Wv} {r : V → Hp → VK → Prop} (ho : UnR X (unaryOp o) r) (hr : Op1 X.K op r) (ha : PE X a (tD X.K W f)) : PE X (.UnaryOp o a pos) (tD X.K W (dU1 op f)) := PE.to (pe_un ho ha) (u1 hr)
end
/-! ### several values -/
inductive RsL where
  | ok (ws : List Wv) (e : En)
  | err (c : Str) (e : En)
  | bad
def bndL (r : RsL) (k : List Wv → En → Rs) : Rs := match r with
  | .ok ws e => k ws e
  | .err c e => .err c e
  | .bad => .bad
def bndC (r : Rs) (k : Wv → En → RsL) : RsL := match r with
  | .ok w e => k w e
  | .err c e => .err c e
  | .bad => .bad
def consR (w : Wv) (r : RsL) : RsL := match r with
  | .ok ws e => .ok (w :: ws) e
  | .err c e => .err c e
  | .bad => .bad
def evs : List DE → En → RsL
  | [], e => .ok [] e
  | f :: fs, e => bndC (f e) fun w e1 => consR w (evs fs e1)
/-- values side by side -/
inductive VVs (K : PySem.W.Frag) (F H : Hp) (σ : St) (e : En) : List V → List Wv → Prop
  | nil : VVs K F H σ e [] []
  | cons {v : V} {w : Wv} {vs : List V} {ws : List Wv} : VV K F H σ e v w → VVs K F H σ e vs ws → VVs K F H σ e (v :: vs) (w :: ws)
/-- what values side by side name alone -/
def adrs (H : Hp) : List V → List Wv → List Addr
  | v :: vs, w :: ws => adr H v w ++ adrs H vs ws
  | _, _ => []
/-- all new, each for itself -/
inductive Nws (H H' : Hp) : List V → List Wv → Prop
  | nil : Nws H H' [] []
  | cons {v : V} {w : Wv} {vs : List V} {ws : List Wv} : Nw H H' v w → (∀ a ∈ adr H' v w, a ∉ adrs H' vs ws) → Nws H H' vs ws → Nws H H' (v :: vs) (w :: ws)
section
variable {K : PySem.W.Frag} {F H F' H' : Hp} {σ σ' : St} {e e' : En} {v : V} {w : Wv} {W : WX}
theorem Nws.back {H1 : Hp} (t : ∀ a, H a ≠ none → H1 a ≠ none) : ∀ {vs : List V} {ws : List Wv}, Nws H1 H' vs ws → Nws H H' vs ws
  | _, _, .nil => .nil
  | _, _, .cons h d r => .cons (h.back t) d (Nws.back t r)
theorem nws_adrs : ∀ {vs : List V} {ws : List Wv}, VVs K F H' σ e vs ws → Nws H H' vs ws → ∀ a ∈ adrs H' vs ws, H a = none
  | _, _, .nil, _, a, ha => by cases ha
  | _, _, .cons (v := v) (w := w) V t, .cons h _ r, a, ha => by
    rcases List.mem_append.mp ha with z | z
    · exact (nw_iff (fun xs e => by subst e; exact V) (fun t e => by subst e; exact V)).mp h a z
    · exact nws_adrs t r a z
theorem nws_cons {H1 H2 F1 F2 : Hp} {e1 e2 : En} {v : V} {w : Wv} {vs : List V} {ws : List Wv} (x1 : Ex F1 H1) (x2 : Ex F2 H2) (S1 : ∀ a, H a ≠ none → H1 a ≠ none) (S2 : Stp σ e1 F1 H1 σ e2 F2 H2) (V1 : VV K F1 H1 σ e1 v w) (N1 : Nw H H1 v w) (V2 : VVs K F2 H2 σ e2 vs ws) (N2 : Nws H1 H2 vs ws) : Nws H H2 (v :: vs) (w :: ws) :=
  .cons (N1.fwd x1 x2 S2 V1) (fun a ha z => by
    rw [vv_same x1 x2 S2 V1] at ha
    obtain ⟨_, ⟨o, ho⟩, _⟩ := vv_adr x1 V1 ha
    rw [nws_adrs V2 N2 a z] at ho
    cases ho) (N2.back S1)
def GoL (K : PySem.W.Frag) (W : WX) (r : RsL) (σ : St) (e : En) (F H : Hp) (Q : List V → Hp → Prop) : Prop := match r with
  | .ok ws e' => ∀ vs H' F', Rel K F' H' σ e' → Stp σ e F H σ e' F' H' → VVs K F' H' σ e' vs ws → Nws H H' vs ws → Q vs H'
  | .err c e' => ∀ H' F', Rel K F' H' σ e' → Stp σ e F H σ e' F' H' → W (cl K c) none σ H'
  | .bad => False
def tDA (K : PySem.W.Frag) (W : WX) (fs : List DE) : TA := fun σ H Q => ∃ F e, Rel K F H σ e ∧ GoL K W (evs fs e) σ e F H Q
theorem GoL.imp {r : RsL} {Q Q' : List V → Hp → Prop} (h : GoL K W r σ e F H Q) (k : ∀ v H', Q v H' → Q' v H') : GoL K W r σ e F H Q' := by
  cases r with
  | ok w e' => exact fun v H' F' a b c d => k _ _ (h v H' F' a b c d)
  | err c e' => exact h
  | bad => exact h
theorem GoL.later {r : RsL} {Q : List V → Hp → Prop} {e1 : En} {F1 H1 : Hp} (S : Stp σ e F H σ e1 F1 H1) (h : GoL K W r σ e F H Q) : GoL K W r σ e1 F1 H1 Q := by
  cases r with
  | ok w e' => exact fun v H' F' a b c d => h v H' F' a (S.tr b) c (d.back S.there)
  | err c e' => exact fun H' F' a b => h H' F' a (S.tr b)
  | bad => exact h
theorem Go.bndL {r : RsL} {k : List Wv → En → Rs} {Q : VK} (h : Go K W (bndL r k) σ e F H Q) :
    GoL K W r σ e F H fun vs H1 => ∃ F1 e1 ws, Rel K F1 H1 σ e1 ∧ Stp σ e F H σ e1 F1 H1 ∧ VVs K F1 H1 σ e1 vs ws ∧ Nws H H1 vs ws ∧ Go K W (k ws e1) σ e F H Q := by
  cases r with
  | ok w1 e1 => exact fun v H1 F1 R S V N => ⟨F1, e1, w1, R, S, V, N, h⟩
  | err c e1 => exact h
  | bad => exact h
end
section
variable {X : Cx} {W : WX} {a : Expr} {as : List Expr} {f : DE} {fs : List DE}
theorem pd_nil : PA X [] (tDA X.K W []) := PA.to pa_nil fun σ H Q ⟨F, e, R, h⟩ => h [] H F R Stp.rfl' .nil .nil
theorem pd_cons (ha : PE X a (tD X.K W f)) (hr : PA X as (tDA X.K W fs)) (hs : starEach (a :: as) X.env = (false, eval a X.env) :: starEach as X.env := by rfl) : PA X (a :: as) (tDA X.K W (f :: fs)) := by
  refine PA.to (pa_cons ha hr hs) ?_
  rintro σ H Q ⟨F, e, R, h⟩
  refine ⟨F, e, R, ?_⟩
  have h : GoL X.K W (bndC (f e) fun w e1 => consR w (evs fs e1)) σ e F H Q := h
  cases q : f e with
  | bad => rw [q] at h; exact h
  | err c e1 => rw [q] at h; exact h
  | ok w e1 =>
    rw [q] at h
    have h : GoL X.K W (consR w (evs fs e1)) σ e F H Q := h
    intro v H1 F1 R1 S1 V1 N1
    refine ⟨F1, e1, R1, ?_⟩
    cases q2 : evs fs e1 with
    | bad => rw [q2] at h; exact h
    | err c e2 =>
      rw [q2] at h
      exact fun H2 F2 R2 S2 => h H2 F2 R2 (S1.tr S2)
    | ok ws e2 =>
      rw [q2] at h
      exact fun vs H2 F2 R2 S2 V2 N2 => h (v :: vs) H2 F2 R2 (S1.tr S2) (.cons (V1.mono R1.ex R2.ex S2) V2) (nws_cons R1.ex R2.ex S1.there S2 V1 N1 V2 N2)
/-! ### handing on -/
def esR (r : Rs) : Rs := bnd r fun w e => match es e w with
  | some (x, e') => .ok (.d x) e'
  | none => .bad
def dEs (f : DE) : DE := fun e => esR (f e)
theorem pd_es (ha : PE X a (tD X.K W f)) : PE X a (tD X.K W (dEs f)) := by
  refine PE.to ha ?_
  rintro σ H Q ⟨F, e, R, h⟩
  refine ⟨F, e, R, Go.imp (Go.bnd h) ?_⟩
  rintro v H1 ⟨F1, e1, w1, R1, S1, V1, N1, h1⟩
  cases q : es e1 w1 with
  | none =>
    have z : Go X.K W (match es e1 w1 with
      | some (x, e') => .ok (.d x) e'
      | none => .bad) σ e F H Q := h1
    rw [q] at z
    exact z.elim
  | some p =>
    obtain ⟨x, e2⟩ := p
    have z : Go X.K W (match es e1 w1 with
      | some (x, e') => .ok (.d x) e'
      | none => .bad) σ e F H Q := h1
    rw [q] at z
    obtain ⟨F2, R2, S2, D2⟩ := es_ok S1 R1 V1 N1 q
    exact z v H1 F2 R2 S2 D2 trivial
/-! ### built-ins that read -/
def rss (e : En) : List Wv → Option (List PyData)
  | [] => some []
  | w :: ws => (rs e w).bind fun x => (rss e ws).bind fun xs => some (x :: xs)
def dUn (op : List PyData → Option Wv) (fs : List DE) : DE := fun e => bndL (evs fs e) fun ws e1 => optR ((rss e1 ws).bind op) e1
inductive DHs (K : PySem.W.Frag) (F H : Hp) : List V → List PyData → Prop
  | nil : DHs K F H [] []
  | cons {v : V} {x : PyData} {vs : List V} {xs : List PyData} : DH K F H v x → DHs K F H vs xs → DHs K F H (v :: vs) (x :: xs)
theorem rss_dh {K : PySem.W.Frag} {F H : Hp} {σ : St} {e : En} (R : Rel K F H σ e) : ∀ {vs : List V} {ws : List Wv} {xs : List PyData}, VVs K F H σ e vs ws → rss e ws = some xs → DHs K F H vs xs
  | _, _, _, .nil, q => by cases q; exact .nil
  | _, _, _, .cons h t, q => by
    obtain ⟨x, q1, q⟩ := Option.bind_eq_some_iff.mp q
    obtain ⟨ys, q2, q⟩ := Option.bind_eq_some_iff.mp q
    cases q
    exact .cons (rs_dh R h q1) (rss_dh R t q2)
abbrev OpL (K : PySem.W.Frag) (op : List PyData → Option Wv) (r : List V → Hp → VK → Prop) : Prop := ∀ (F H : Hp) (vs : List V) (xs : List PyData) (w : Wv) (Q : VK), Ex F H → DHs K F H vs xs → op xs = some w → (∀ v H', New K F H v w H' → Q v H') → r vs H Q
theorem uL {op : List PyData → Option Wv} {r : List V → Hp → VK → Prop} (hr : OpL X.K op r) : ∀ σ H Q, tD X.K W (dUn op fs) σ H Q → tCB r (tDA X.K W fs) σ H Q := by
  rintro σ H Q ⟨F, e, R, h⟩
  refine ⟨F, e, R, GoL.imp (Go.bndL h) ?_⟩
  rintro vs H1 ⟨F1, e1, ws, R1, S1, V1, N1, h1⟩
  obtain ⟨z, qz, h1⟩ := h1.opt
  obtain ⟨xs, q1, qz⟩ := Option.bind_eq_some_iff.mp qz
  exact hr F1 H1 vs xs z Q R1.ex (rss_dh R1 V1 q1) qz (Go.new h1 S1 R1)
variable {id T : String} {x : Str} {p pos : Pos}
theorem pd_callB {op : List PyData → Option Wv} {r : List V → Hp → VK → Prop} (hc : CallR X (.builtin id) r) (hr : OpL X.K op r) (hg : Gl X x) (hm : X.mg x = none) (hv : bootBuiltins x = some (.builtin id)) (ha : PA X (a :: as) (tDA X.K W fs))
    (hn : x ≠ "__name__" := by decide) (hdb : (x == ("__debug__" : Str)) = false := by decide)
    (he : starEach (a :: as) X.env = (false, eval a X.env) :: starEach as X.env := by rfl) (hpl : (backTo pos (starEach as X.env)).any (·.1) = false := by rfl) :
    PE X (.Call (.Name x p) (a :: as) [] pos) (tD X.K W (dUn op fs)) := PE.to (pe_callB hc hg hm hv ha hn hdb he hpl) (uL hr)
theorem pd_callTy {op : List PyData → Option Wv} {r : List V → Hp → VK → Prop} (hc : CallR X (.type T) r) (hr : OpL X.K op r) (hg : Gl X x) (hm : X.mg x = none) (hv : bootBuiltins x = some (.type T)) (ha : PA X (a :: as) (tDA X.K W fs))
    (hn : x ≠ "__name__" := by decide) (hdb : (x == ("__debug__" : Str)) = false := by decide)
    (he : starEach (a :: as) X.env = (false, eval a X.env) :: starEach as X.env := by rfl) (hpl : (backTo pos (starEach as X.env)).any (·.1) = false := by rfl) :
    PE X (.Call (.Name x p) (a :: as) [] pos) (tD X.K W (dUn op fs)) := PE.to (pe_callTy hc hg hm hv ha hn hdb he hpl) (uL hr)
end
end Vf
/-! Displays, tests, slices, methods. -/
namespace Vf
open PySem PySem.Spec L2
open PyProof.Rows hiding St
section
variable {K : PySem.W.Frag} {F H F' H' : Hp} {σ σ' : St} {e e' : En} {v : V} {w : Wv} {W : WX}
/-! ### displays -/
def dat1 : Wv → Option PyData
  | .d x => some x
  | _ => none
def dats : List Wv → Option (List PyData)
  | [] => some []
  | w :: ws => (dat1 w).bind fun x => (dats ws).bind fun xs => some (x :: xs)
theorem dats_ok : ∀ {vs : List V} {ws : List Wv} {xs : List PyData}, VVs K F H σ e vs ws → dats ws = some xs → DpAll K F vs xs
  | _, _, _, .nil, q => by cases q; exact .nil
  | _, _, _, .cons (w := w) h t, q => by
    obtain ⟨x, q1, q⟩ := Option.bind_eq_some_iff.mp q
    obtain ⟨ys, q2, q⟩ := Option.bind_eq_some_iff.mp q
    cases q
    cases w with
    | d y => cases q1; exact .cons h (dats_ok t q2)
    | _ => cases q1
def lim (n : Nat) (r : Wv) : Option Wv := if n ≤ 1000000 then some r else none
theorem lim_ok {n : Nat} {r z : Wv} (h : lim n r = some z) : n ≤ 1000000 ∧ z = r := by
  unfold lim at h
  by_cases q : n ≤ 1000000
  · rw [if_pos q] at h; exact ⟨q, (Option.some.inj h).symm⟩
  · rw [if_neg q] at h; cases h
theorem le_line {n : Nat} (h : n ≤ 1000000) : n ≤ sizeLine := Nat.le_trans h (by rw [sizeLine_eq]; decide)
theorem lt_line {n : Nat} (h : n ≤ 1000000) : n < sizeLine := Nat.lt_of_le_of_lt h (by rw [sizeLine_eq]; decide)
def dTup (fs : List DE) : DE := fun e => bndL (evs fs e) fun ws e1 => optR ((dats ws).bind fun xs => lim xs.length (.d (.tuple xs))) e1
def dLst (fs : List DE) : DE := fun e => bndL (evs fs e) fun ws e1 => optR ((dats ws).bind fun xs => lim xs.length (.own xs)) e1
end
section
variable {X : Cx} {W : WX} {a b : Expr} {as : List Expr} {f g : DE} {fs : List DE} {pos : Pos}
theorem pd_tup {x1 : Nat} (h : PA X as (tDA X.K W fs)) : PE X (.Tuple as x1 pos) (tD X.K W (dTup fs)) := by
  refine PE.to (pe_tup h) ?_
  rintro σ H Q ⟨F, e, R, h⟩
  refine ⟨F, e, R, GoL.imp (Go.bndL h) ?_⟩
  rintro vs H1 ⟨F1, e1, ws, R1, S1, V1, N1, h1⟩
  obtain ⟨z, qz, h1⟩ := h1.opt
  obtain ⟨xs, q1, qz⟩ := Option.bind_eq_some_iff.mp qz
  obtain ⟨hl, rfl⟩ := lim_ok qz
  have D := dats_ok V1 q1
  exact ⟨le_line (by rw [dpa_len D]; exact hl), fun p hp => Go.new h1 S1 R1 _ _ (.inr ⟨p, vs, xs, rfl, hp, rfl, rfl, D⟩)⟩
theorem pd_lst (h : PA X as (tDA X.K W fs)) : PE X (.List as pos) (tD X.K W (dLst fs)) := by
  refine PE.to (pe_lst h) ?_
  rintro σ H Q ⟨F, e, R, h⟩
  refine ⟨F, e, R, GoL.imp (Go.bndL h) ?_⟩
  rintro vs H1 ⟨F1, e1, ws, R1, S1, V1, N1, h1⟩
  obtain ⟨z, qz, h1⟩ := h1.opt
  obtain ⟨xs, q1, qz⟩ := Option.bind_eq_some_iff.mp qz
  obtain ⟨hl, rfl⟩ := lim_ok qz
  have D := dats_ok V1 q1
  exact ⟨le_line (by rw [dpa_len D]; exact hl), fun p hp => Go.new h1 S1 R1 _ _ ⟨p, vs, rfl, hp, rfl, D⟩⟩
/-! ### tests -/
def GoT (K : PySem.W.Frag) (W : WX) (r : Rs) (σ : St) (e : En) (F H : Hp) (Q : Bool → Hp → Prop) : Prop := match r with
  | .ok w e' => ∃ b, rs e' w = some (.bool b) ∧ ∀ H' F', Rel K F' H' σ e' → Stp σ e F H σ e' F' H' → Q b H'
  | .err c e' => ∀ H' F', Rel K F' H' σ e' → Stp σ e F H σ e' F' H' → W (cl K c) none σ H'
  | .bad => False
def tDT (K : PySem.W.Frag) (W : WX) (f : DE) : TT := fun σ H Q => ∃ F e, Rel K F H σ e ∧ GoT K W (f e) σ e F H Q
theorem dh_bl {K : PySem.W.Frag} {F H : Hp} {v : V} {b : Bool} (h : DH K F H v (.bool b)) : v = .bl b := dp_bl h
theorem got_go {K : PySem.W.Frag} {F H : Hp} {σ : St} {e : En} {r : Rs} {Q : Bool → Hp → Prop} (h : GoT K W r σ e F H Q) : Go K W r σ e F H fun v H' => ∃ k, v = .bl k ∧ Q k H' := by
  cases r with
  | ok w e' =>
    obtain ⟨b, q, h⟩ := h
    exact fun v H' F' R S V N => ⟨b, dh_bl (rs_dh R V q), h H' F' R S⟩
  | err c e' => exact h
  | bad => exact h
theorem t_test {t : TE} (k : ∀ σ H Q, tD X.K W f σ H Q → t σ H Q) : ∀ σ H Q, tDT X.K W f σ H Q → tTest t σ H Q := by
  rintro σ H Q ⟨F, e, R, h⟩
  exact k σ H _ ⟨F, e, R, got_go h⟩
theorem pt_d_val (h : PE X a (tD X.K W f)) (he : ∀ whole, isTrue a X.env whole = (do let v ← whole; standAt a.pos; holding [v] (truthy v)) := by intro _; rfl) : PT X a (tDT X.K W f) :=
  PT.to (pt_val h he) fun σ H Q ⟨F, e, R, q⟩ => ⟨F, e, R, got_go q⟩
theorem pt_d_cmp {o : CmpOp} {op : PyData → PyData → Option Wv} {r : R2} (ho : OpR X (compareOp o) r) (hr : Op2 X.K op r) (ha : PE X a (tD X.K W f)) (hb : PE X b (tD X.K W g)) (hm : behindInMarks o b = false) :
    PT X (.Compare a [o] [b] pos) (tDT X.K W (dU2 op f g)) := PT.to (pt_cmpR ho ha hb hm) (t_test (u2 hr))
def dNot (f : DE) : DE := dU1 (fun x => match x with | .bool b => some (.d (.bool !b)) | _ => none) f
def isB (r : Option PyData) : Option Bool := match r with
  | some (.bool b) => some b
  | _ => none
def brB (o : Option Bool) (y n : Rs) : Rs := match o with
  | some true => y
  | some false => n
  | none => .bad
def dAnd (f g : DE) : DE := fun e => bnd (f e) fun w e1 => brB (isB (rs e1 w)) (g e1) (.ok (.d (.bool false)) e1)
def dOr (f g : DE) : DE := fun e => bnd (f e) fun w e1 => brB (isB (rs e1 w)) (.ok (.d (.bool true)) e1) (g e1)
def dIte (c f g : DE) : DE := fun e => bnd (c e) fun w e1 => brB (isB (rs e1 w)) (f e1) (g e1)
theorem isB_some {r : Option PyData} {b : Bool} (h : isB r = some b) : r = some (.bool b) := by
  unfold isB at h
  split at h
  · cases h; rfl
  · cases h
theorem GoT.imp {K : PySem.W.Frag} {F H : Hp} {σ : St} {e : En} {r : Rs} {Q Q' : Bool → Hp → Prop} (h : GoT K W r σ e F H Q) (k : ∀ b H', Q b H' → Q' b H') : GoT K W r σ e F H Q' := by
  cases r with
  | ok w e' =>
    obtain ⟨b, q, h⟩ := h
    exact ⟨b, q, fun H' F' a c => k _ _ (h H' F' a c)⟩
  | err c e' => exact h
  | bad => exact h
theorem GoT.later {K : PySem.W.Frag} {F H F1 H1 : Hp} {σ : St} {e e1 : En} {r : Rs} {Q : Bool → Hp → Prop} (S : Stp σ e F H σ e1 F1 H1) (h : GoT K W r σ e F H Q) : GoT K W r σ e1 F1 H1 Q := by
  cases r with
  | ok w e' =>
    obtain ⟨b, q, h⟩ := h
    exact ⟨b, q, fun H' F' a c => h H' F' a (S.tr c)⟩
  | err c e' => exact fun H' F' a b => h H' F' a (S.tr b)
  | bad => exact h
/-- a test, then what is done in either case -/
theorem got_bnd {K : PySem.W.Frag} {F H : Hp} {σ : St} {e : En} {r : Rs} {y n : En → Rs} {P : Rs → Prop} (k : Wv → En → Rs) (hk : k = fun w e1 => brB (isB (rs e1 w)) (y e1) (n e1))
    (hP : ∀ c e', P (.err c e') → ∀ H' F', Rel K F' H' σ e' → Stp σ e F H σ e' F' H' → W (cl K c) none σ H') (hb : ¬ P .bad) (h : P (bnd r k)) :
    GoT K W r σ e F H fun b H1 => ∃ F1 e1, Rel K F1 H1 σ e1 ∧ Stp σ e F H σ e1 F1 H1 ∧ P (if b = true then y e1 else n e1) := by
  subst hk
  cases r with
  | bad => exact (hb h).elim
  | err c e1 => exact hP c e1 h
  | ok w e1 =>
    have h : P (brB (isB (rs e1 w)) (y e1) (n e1)) := h
    cases q : isB (rs e1 w) with
    | none => rw [q] at h; exact (hb h).elim
    | some b =>
      rw [q] at h
      refine ⟨b, isB_some q, fun H1 F1 R1 S1 => ⟨F1, e1, R1, S1, ?_⟩⟩
      cases b with
      | true => exact h
      | false => exact h
theorem go_br {K : PySem.W.Frag} {F H : Hp} {σ : St} {e : En} {r : Rs} {y n : En → Rs} {Q : VK} (h : Go K W (bnd r fun w e1 => brB (isB (rs e1 w)) (y e1) (n e1)) σ e F H Q) :
    GoT K W r σ e F H fun b H1 => ∃ F1 e1, Rel K F1 H1 σ e1 ∧ Stp σ e F H σ e1 F1 H1 ∧ Go K W (if b = true then y e1 else n e1) σ e F H Q :=
  got_bnd (P := fun r => Go K W r σ e F H Q) _ rfl (fun c e' h => h) (fun h => h) h
theorem gt_br {K : PySem.W.Frag} {F H : Hp} {σ : St} {e : En} {r : Rs} {y n : En → Rs} {Q : Bool → Hp → Prop} (h : GoT K W (bnd r fun w e1 => brB (isB (rs e1 w)) (y e1) (n e1)) σ e F H Q) :
    GoT K W r σ e F H fun b H1 => ∃ F1 e1, Rel K F1 H1 σ e1 ∧ Stp σ e F H σ e1 F1 H1 ∧ GoT K W (if b = true then y e1 else n e1) σ e F H Q :=
  got_bnd (P := fun r => GoT K W r σ e F H Q) _ rfl (fun c e' h => h) (fun h => h) h
theorem got_ok {K : PySem.W.Frag} {F H : Hp} {σ : St} {e e0 : En} {F0 H0 : Hp} {b : Bool} {Q : Bool → Hp → Prop} (h : GoT K W (.ok (.d (.bool b)) e) σ e0 F0 H0 Q) (R : Rel K F H σ e) (S : Stp σ e0 F0 H0 σ e F H) : Q b H := by
  obtain ⟨c, q, h⟩ := h
  cases q
  exact h H F R S
theorem pt_d_not (h : PT X a (tDT X.K W f)) : PT X (.UnaryOp .Not a pos) (tDT X.K W (dNot f)) := by
  refine PT.to (pt_not h) ?_
  rintro σ H Q ⟨F, e, R, q⟩
  refine ⟨F, e, R, ?_⟩
  have q : GoT X.K W (bnd (f e) fun w1 e1 => optR ((rs e1 w1).bind (fun x => match x with | .bool b => some (.d (.bool !b)) | _ => none)) e1) σ e F H Q := q
  cases r : f e with
  | bad => rw [r] at q; exact q
  | err c e1 => rw [r] at q; exact q
  | ok w e1 =>
    rw [r] at q
    have q : GoT X.K W (optR ((rs e1 w).bind (fun x => match x with | .bool b => some (.d (.bool !b)) | _ => none)) e1) σ e F H Q := q
    cases z : rs e1 w with
    | none => rw [z] at q; exact q.elim
    | some x =>
      rw [z] at q
      cases x with
      | bool b => exact ⟨b, z, fun H' F' R' S' => got_ok q R' S'⟩
      | _ => exact q.elim
theorem pw_d_and1 (ha : PT X a (tDT X.K W f)) : PW X (.BoolOp .And [a] pos) (tDT X.K W f) := pw_and1 ha
theorem pw_d_or1 (ha : PT X a (tDT X.K W f)) : PW X (.BoolOp .Or [a] pos) (tDT X.K W f) := pw_or1 ha
theorem PW.to {e : Expr} {t t' : TT} (h : PW X e t) (k : ∀ σ H Q, t' σ H Q → t σ H Q) : PW X e t' :=
  ⟨fun wh pins s σ H Q I q => h.run wh pins s σ H Q I (k σ H Q q)⟩
theorem pw_d_and (ha : PT X a (tDT X.K W f)) (hb : PW X (.BoolOp .And (b :: as) pos) (tDT X.K W g)) : PW X (.BoolOp .And (a :: b :: as) pos) (tDT X.K W (dAnd f g)) := by
  refine PW.to (pw_and ha hb) ?_
  rintro σ H Q ⟨F, e, R, h⟩
  refine ⟨F, e, R, GoT.imp (gt_br h) ?_⟩
  rintro c H1 ⟨F1, e1, R1, S1, h1⟩
  cases c with
  | true => exact ⟨F1, e1, R1, GoT.later S1 h1⟩
  | false => exact got_ok h1 R1 S1
theorem pw_d_or (ha : PT X a (tDT X.K W f)) (hb : PW X (.BoolOp .Or (b :: as) pos) (tDT X.K W g)) : PW X (.BoolOp .Or (a :: b :: as) pos) (tDT X.K W (dOr f g)) := by
  refine PW.to (pw_or ha hb) ?_
  rintro σ H Q ⟨F, e, R, h⟩
  refine ⟨F, e, R, GoT.imp (gt_br h) ?_⟩
  rintro c H1 ⟨F1, e1, R1, S1, h1⟩
  cases c with
  | true => exact got_ok h1 R1 S1
  | false => exact ⟨F1, e1, R1, GoT.later S1 h1⟩
theorem pd_if {c : Expr} {fc : DE} (hc : PT X c (tDT X.K W fc)) (ha : PE X a (tD X.K W f)) (hb : PE X b (tD X.K W g)) : PE X (.IfExp c a b pos) (tD X.K W (dIte fc f g)) := by
  refine PE.to (pe_ifExp hc ha hb) ?_
  rintro σ H Q ⟨F, e, R, h⟩
  refine ⟨F, e, R, GoT.imp (go_br h) ?_⟩
  rintro c H1 ⟨F1, e1, R1, S1, h1⟩
  cases c with
  | true => exact ⟨F1, e1, R1, Go.later S1 h1⟩
  | false => exact ⟨F1, e1, R1, Go.later S1 h1⟩
/-! ### .. as values -/
theorem go_boolV {K : PySem.W.Frag} {F H : Hp} {σ : St} {e : En} {r : Rs} {Q : VK} {y n : En → Rs} (h : Go K W (bnd r fun w e1 => brB (isB (rs e1 w)) (y e1) (n e1)) σ e F H Q) :
    Go K W r σ e F H fun v H1 => ∃ c, v = .bl c ∧ ∃ F1 e1, Rel K F1 H1 σ e1 ∧ Stp σ e F H σ e1 F1 H1 ∧ Go K W (if c = true then y e1 else n e1) σ e F H Q := got_go (go_br h)
theorem pd_one {o : BoolOp} (h : PE X a (tD X.K W f)) : PE X (.BoolOp o [a] pos) (tD X.K W f) := pe_one h
theorem pd_and (ha : PE X a (tD X.K W f)) (hb : PE X (.BoolOp .And (b :: as) pos) (tD X.K W g)) : PE X (.BoolOp .And (a :: b :: as) pos) (tD X.K W (dAnd f g)) := by
  refine PE.to (pe_and ha hb) ?_
  rintro σ H Q ⟨F, e, R, h⟩
  refine ⟨F, e, R, Go.imp (go_boolV h) ?_⟩
  rintro v H1 ⟨c, rfl, F1, e1, R1, S1, h1⟩
  refine ⟨c, rfl, ?_⟩
  cases c with
  | true => exact ⟨F1, e1, R1, Go.later S1 h1⟩
  | false => exact Go.new h1 S1 R1 _ _ (.inl ⟨rfl, .bl false⟩)
theorem pd_or (ha : PE X a (tD X.K W f)) (hb : PE X (.BoolOp .Or (b :: as) pos) (tD X.K W g)) : PE X (.BoolOp .Or (a :: b :: as) pos) (tD X.K W (dOr f g)) := by
  refine PE.to (pe_or ha hb) ?_
  rintro σ H Q ⟨F, e, R, h⟩
  refine ⟨F, e, R, Go.imp (go_boolV h) ?_⟩
  rintro v H1 ⟨c, rfl, F1, e1, R1, S1, h1⟩
  refine ⟨c, rfl, ?_⟩
  cases c with
  | true => exact Go.new h1 S1 R1 _ _ (.inl ⟨rfl, .bl true⟩)
  | false => exact ⟨F1, e1, R1, Go.later S1 h1⟩
theorem pd_not (ha : PE X a (tD X.K W f)) : PE X (.UnaryOp .Not a pos) (tD X.K W (dNot f)) := by
  refine PE.to (pe_not ha) ?_
  intro σ H Q h
  refine u1 (r := fun x H Q => ∃ c, x = .bl c ∧ Q (.bl (!c)) H) ?_ σ H Q h
  intro F H v1 x w Q _ dh q k
  cases x with
  | bool b =>
    cases q
    exact ⟨b, dp_bl dh, k _ _ (.inl ⟨rfl, .bl _⟩)⟩
  | _ => cases q
/-! ### a < b < c -/
def dChain (op op' : PyData → PyData → Option Wv) (f g h : DE) : DE := fun e => bnd (f e) fun w1 e1 => bnd (g e1) fun w2 e2 =>
  brB (isB ((rs e2 w1).bind fun x => (rs e2 w2).bind fun y => (op x y).bind dat1)) (bnd (h e2) fun w3 e3 => optR ((rs e3 w2).bind fun y => (rs e3 w3).bind fun z => op' y z) e3) (.ok (.d (.bool false)) e2)
theorem uchain {op op' : PyData → PyData → Option Wv} {r r' : R2} {h : DE} (hr : Op2 X.K op r) (hr' : Op2 X.K op' r') : ∀ σ H Q, tD X.K W (dChain op op' f g h) σ H Q → tChain r r' (tD X.K W f) (tD X.K W g) (tD X.K W h) σ H Q := by
  rintro σ H Q ⟨F, e, R, q⟩
  refine ⟨F, e, R, q.bnd.imp ?_⟩
  rintro v1 H1 ⟨F1, e1, w1, R1, S1, V1, N1, h1⟩
  refine ⟨F1, e1, R1, (h1.later S1).bnd.imp ?_⟩
  rintro v2 H2 ⟨F2, e2, w2, R2, S2, V2, N2, h2⟩
  cases q : isB ((rs e2 w1).bind fun x => (rs e2 w2).bind fun y => (op x y).bind dat1) with
  | none => rw [q] at h2; exact h2.elim
  | some b =>
    rw [q] at h2
    obtain ⟨x, q1, q⟩ := Option.bind_eq_some_iff.mp (isB_some q)
    obtain ⟨y, q2, q⟩ := Option.bind_eq_some_iff.mp q
    obtain ⟨z, q3, q⟩ := Option.bind_eq_some_iff.mp q
    have ez : z = .d (.bool b) := by
      cases z with
      | d u => cases q; rfl
      | _ => cases q
    subst ez
    refine hr F2 H2 v1 v2 x y _ _ R2.ex (rs_dh R2 (V1.mono R1.ex R2.ex S2) q1) (rs_dh R2 V2 q2) q3 ?_
    intro v H' n
    rcases n with ⟨rfl, n⟩ | ⟨_, _, _, _, _, _, n, _⟩
    · refine ⟨b, dp_bl n, ?_⟩
      cases b with
      | false => exact Go.new h2 S2 R2 _ _ (.inl ⟨rfl, .bl false⟩)
      | true =>
        refine ⟨F2, e2, R2, (Go.later S2 h2).bnd.imp ?_⟩
        rintro v3 H3 ⟨F3, e3, w3, R3, S3, V3, N3, h3⟩
        obtain ⟨z, qz, h3⟩ := h3.opt
        obtain ⟨y', q1, qz⟩ := Option.bind_eq_some_iff.mp qz
        obtain ⟨z', q2, qz⟩ := Option.bind_eq_some_iff.mp qz
        exact hr' F3 H3 v2 v3 y' z' z Q R3.ex (rs_dh R3 (V2.mono R2.ex R3.ex S3) q1) (rs_dh R3 V3 q2) qz (Go.new h3 S3 R3)
    · cases n
theorem pd_chain {c : Expr} {o o' : CmpOp} {op op' : PyData → PyData → Option Wv} {r r' : R2} {h : DE} (ho : OpR X (compareOp o) r) (hr : Op2 X.K op r) (ho' : OpR X (compareOp o') r') (hr' : Op2 X.K op' r') (ha : PE X a (tD X.K W f)) (hb : PE X b (tD X.K W g)) (hc : PE X c (tD X.K W h))
    (hm : lastMarks [o, o'] [b, c] = false := by with_unfolding_all rfl) : PE X (.Compare a [o, o'] [b, c] pos) (tD X.K W (dChain op op' f g h)) := PE.to (pe_chain ho ho' ha hb hc hm) (uchain hr hr')
theorem pt_d_chain {c : Expr} {o o' : CmpOp} {op op' : PyData → PyData → Option Wv} {r r' : R2} {h : DE} (ho : OpR X (compareOp o) r) (hr : Op2 X.K op r) (ho' : OpR X (compareOp o') r') (hr' : Op2 X.K op' r') (ha : PE X a (tD X.K W f)) (hb : PE X b (tD X.K W g)) (hc : PE X c (tD X.K W h))
    (hm : lastMarks [o, o'] [b, c] = false := by with_unfolding_all rfl) : PT X (.Compare a [o, o'] [b, c] pos) (tDT X.K W (dChain op op' f g h)) := PT.to (pt_chain ho ho' ha hb hc hm) (t_test (uchain hr hr'))
end
end Vf
/-! Slices, methods, changes of a list, calls of defs. -/
namespace Vf
open PySem PySem.Spec L2
open PyProof.Rows hiding St
section
variable {K : PySem.W.Frag} {F H F' H' : Hp} {σ σ' : St} {e e' : En} {v : V} {w : Wv} {W : WX}
/-! ### slices: a part left out, or an int -/
def dPart (f : Option DE) : En → RsL := fun e => match f with
  | none => .ok [] e
  | some f => evs [f] e
def intR : List (Option PyData) → Option (Option Int)
  | [] => some none
  | [some (.int i)] => some (some i)
  | _ => none
/-- what stands between lo and hi -/
def cutD (xs : List PyData) (lo hi : Option Int) : List PyData := (xs.drop (HT.sIx xs.length 0 lo)).take (HT.sIx xs.length xs.length hi - HT.sIx xs.length 0 lo)
theorem dpa_cut {vs : List V} {xs : List PyData} (h : DpAll K F vs xs) (lo hi : Option Int) : DpAll K F (cutV vs lo hi) (cutD xs lo hi) := by
  unfold cutV cutD
  rw [dpa_len h]
  exact dpa_take _ (dpa_drop _ h)
def opSl (x : PyData) (lo hi : Option Int) : Option Wv := match x with
  | .list xs => some (.own (cutD xs lo hi))
  | .tuple xs => some (.d (.tuple (cutD xs lo hi)))
  | _ => none
def rSl (K : PySem.W.Frag) : V → Option Int → Option Int → Hp → VK → Prop := fun x lo hi H Q => rSlL K x lo hi H Q ∨ rSlA K x lo hi H Q
theorem sl_any {X : Cx} : SlR X (rSl X.K) := sl_list.or sl_tupA
theorem cut_whole {α : Type} {xs : List α} {lo hi : Option Int} (h : HT.sIx xs.length 0 lo = 0 ∧ HT.sIx xs.length xs.length hi = xs.length) : (xs.drop (HT.sIx xs.length 0 lo)).take (HT.sIx xs.length xs.length hi - HT.sIx xs.length 0 lo) = xs := by
  rw [h.1, h.2, List.drop_zero, Nat.sub_zero, List.take_length]
theorem sl_hr {x : PyData} {lo hi : Option Int} {Q : VK} (hx : Ex F H) (dh : DH K F H v x) (q : opSl x lo hi = some w) (k : ∀ v H', New K F H v w H' → Q v H') : rSl K v lo hi H Q := by
  cases x with
  | list xs =>
    cases q
    obtain ⟨a, vs, rfl, hs, da⟩ := dh
    exact .inl ⟨a, vs, rfl, hs, fun p hp => k _ _ ⟨p, _, rfl, hp, rfl, dpa_cut da lo hi⟩⟩
  | tuple xs =>
    cases q
    obtain ⟨a, vs, rfl, hs, da⟩ := dp_tup_ref dh
    refine .inr ⟨a, vs, rfl, sqt_ex hx hs, fun hw => k _ _ (.inl ⟨rfl, ?_⟩), fun _ p hp => k _ _ (.inr ⟨p, _, _, rfl, hp, rfl, rfl, dpa_cut da lo hi⟩)⟩
    refine .tup hs ?_
    have z : cutD xs lo hi = xs := by
      unfold cutD
      rw [dpa_len da] at hw
      exact cut_whole hw
    rw [z]
    exact da
  | _ => cases q
/-- a part's reading -/
inductive PartD (K : PySem.W.Frag) (W : WX) : TO → Option DE → Prop
  | none : PartD K W tNoPart none
  | some (f : DE) : PartD K W (tPart (tD K W f)) (some f)
def dOpt (f : Option DE) (k : Option Int → En → Rs) : DE := fun e => match f with
  | none => k none e
  | some f => bnd (f e) fun w e1 => match rs e1 w with
    | some (.int i) => k (some i) e1
    | _ => .bad
theorem dh_int {i : Int} (h : DH K F H v (.int i)) : v = .int i := dp_int h
theorem go_opt {to : TO} {f : Option DE} {k : Option Int → En → Rs} {Q : VK} (P : PartD K W to f) (R : Rel K F H σ e) (h : Go K W (dOpt f k e) σ e F H Q) :
    to σ H fun o H1 => ∃ F1 e1, Rel K F1 H1 σ e1 ∧ Stp σ e F H σ e1 F1 H1 ∧ Go K W (k o e1) σ e F H Q := by
  cases P with
  | none => exact ⟨F, e, R, Stp.rfl', h⟩
  | some f =>
    refine ⟨F, e, R, Go.imp (Go.bnd h) ?_⟩
    rintro v H1 ⟨F1, e1, w1, R1, S1, V1, N1, h1⟩
    cases q : rs e1 w1 with
    | none => rw [q] at h1; exact h1.elim
    | some x =>
      rw [q] at h1
      cases x with
      | int i => exact ⟨i, dh_int (rs_dh R1 V1 q), F1, e1, R1, S1, h1⟩
      | _ => exact h1.elim
def dSl (f : DE) (lo hi : Option DE) : DE := fun e => bnd (f e) fun w e1 => dOpt lo (fun l e2 => dOpt hi (fun u e3 => optR ((rs e3 w).bind fun x => opSl x l u) e3) e2) e1
theorem pd_slice {X : Cx} {a : Expr} {lo hi : Option Expr} {tl th : TO} {f : DE} {fl fh : Option DE} {pos p2 : Pos} (he : PE X a (tD X.K W f)) (pl : PartD X.K W tl fl) (hl : PO X lo tl) (ph : PartD X.K W th fh) (hh : PO X hi th) :
    PE X (.Subscript a (.Slice lo hi none p2) pos) (tD X.K W (dSl f fl fh)) := by
  refine PE.to (pe_slice sl_any he hl hh) ?_
  rintro σ H Q ⟨F, e, R, h⟩
  refine ⟨F, e, R, Go.imp (Go.bnd h) ?_⟩
  rintro v H1 ⟨F1, e1, w1, R1, S1, V1, N1, h1⟩
  have mono : ∀ (to : TO) (fo : Option DE), PartD X.K W to fo → ∀ {σ : St} {H : Hp} {A B : Option Int → Hp → Prop}, to σ H A → (∀ o H', A o H' → B o H') → to σ H B := by
    intro to fo P σ H A B h k
    cases P with
    | none => exact k _ _ h
    | some f =>
      obtain ⟨F, e, R, h⟩ := h
      exact ⟨F, e, R, h.imp fun v H' ⟨i, e, q⟩ => ⟨i, e, k _ _ q⟩⟩
  refine mono _ _ pl (go_opt pl R1 (Go.later S1 h1)) ?_
  rintro l H2 ⟨F2, e2, R2, S2, h2⟩
  refine mono _ _ ph (go_opt ph R2 (Go.later S2 h2)) ?_
  rintro u H3 ⟨F3, e3, R3, S3, h3⟩
  obtain ⟨z, qz, h3⟩ := h3.opt
  obtain ⟨x, q1, qz⟩ := Option.bind_eq_some_iff.mp qz
  exact sl_hr R3.ex (rs_dh R3 (V1.mono R1.ex R3.ex (S2.tr S3)) q1) qz (Go.new h3 S3 R3)
/-! ### methods that read -/
def dMt (ty : PyData → Bool) (op : PyData → List PyData → Option Wv) (f : DE) (fs : List DE) : DE := fun e => bnd (f e) fun w e1 =>
  brB ((rs e1 w).map ty) (bndL (evs fs e1) fun ws e2 => optR ((rs e2 w).bind fun x => (rss e2 ws).bind fun xs => op x xs) e2) .bad
abbrev OpM (K : PySem.W.Frag) (T : String) (op : PyData → List PyData → Option Wv) (r : V → List V → Hp → VK → Prop) : Prop := ∀ (F H : Hp) (v : V) (x : PyData) (vs : List V) (xs : List PyData) (w : Wv) (Q : VK), Ex F H → DH K F H v x → DHs K F H vs xs → op x xs = some w → (∀ v H', New K F H v w H' → Q v H') → r v vs H Q
/-! ### a list that a slot names alone, changed -/
def upo (e : En) (i : Nat) (ys : List PyData) : Option En := match e[i]? with
  | some (some (.own _)) => some (e.set i (some (.own ys)))
  | some (some (.brw _)) => some (e.set i (some (.brw ys)))
  | _ => none
def ownAt (e : En) (i : Nat) : Option (List PyData) := match e[i]? with
  | some (some (.own xs)) => some xs
  | some (some (.brw xs)) => some xs
  | _ => none
theorem own_at (R : Rel K F H σ e) {i : Nat} {xs : List PyData} (h : ownAt e i = some xs) : ∃ p vs, σ[i]? = some (some (V.ref p)) ∧ F p = none ∧ H p = some (.lst vs) ∧ DpAll K F vs xs ∧ isOwn e[i]? ∧ i < e.length := by
  unfold ownAt at h
  cases q : e[i]? with
  | none => rw [q] at h; cases h
  | some o =>
    have hl : i < e.length := (List.getElem?_eq_some_iff.mp q).1
    cases o with
    | none => rw [q] at h; cases h
    | some w =>
      obtain ⟨v, e1, r⟩ := R.at_ i w q
      rw [q] at h
      cases w with
      | own ys =>
        cases h
        obtain ⟨p, vs, rfl, a, b, c⟩ := r
        exact ⟨p, vs, e1, a, b, c, trivial, hl⟩
      | brw ys =>
        cases h
        obtain ⟨p, vs, rfl, a, b, c⟩ := r
        exact ⟨p, vs, e1, a, b, c, trivial, hl⟩
      | _ => cases h
theorem upo_shape {i : Nat} {ys : List PyData} (h : upo e i ys = some e') : (∃ xs, e[i]? = some (some (Wv.own xs)) ∧ e' = e.set i (some (.own ys))) ∨ ∃ xs, e[i]? = some (some (Wv.brw xs)) ∧ e' = e.set i (some (.brw ys)) := by
  unfold upo at h
  cases q : e[i]? with
  | none => rw [q] at h; cases h
  | some o =>
    cases o with
    | none => rw [q] at h; cases h
    | some w =>
      rw [q] at h
      cases w with
      | own xs => cases h; exact .inl ⟨xs, rfl, rfl⟩
      | brw xs => cases h; exact .inr ⟨xs, rfl, rfl⟩
      | _ => cases h
/-- what a slot holds changes, nothing else -/
theorem rel_chg3 (R : Rel K F H σ e) {i : Nat} {w w' : Wv} {v : V} {F1 H1 : Hp} (he : e[i]? = some (some w)) (hv : σ[i]? = some (some v)) (x : Ex F F1) (x1 : Ex F1 H1) (r : RV K F1 H1 v w') (only : ∀ a o, H a = some o → a ∉ adr H v w → H1 a = some o)
    (fz : ∀ a, F1 a ≠ none → F a ≠ none ∨ a ∈ adr H v w ∨ H a = none) (sub : ∀ a ∈ adr H1 v w', a ∈ adr H v w ∨ H a = none) (there : ∀ a, H a ≠ none → H1 a ≠ none) (pb : ∀ xs, w = .brw xs → ∃ ys, w' = .brw ys) (pt : ∀ t, w = .bt t → ∃ t', w' = .bt t') :
    Rel K F1 H1 σ (e.set i (some w')) ∧ Stp σ e F H σ (e.set i (some w')) F1 H1 ∧ ∀ a, Owned H1 σ (e.set i (some w')) a → a ∈ adr H1 v w' ∨ Owned H σ e a := by
  have li : i < e.length := (List.getElem?_eq_some_iff.mp he).1
  have other : ∀ j v' u, j ≠ i → e[j]? = some (some u) → σ[j]? = some (some v') → RV K F1 H1 v' u ∧ adr H1 v' u = adr H v' u := by
    intro j v' u nj hj hv'
    obtain ⟨v2, e1, r2⟩ := R.at_ j u hj
    rw [hv'] at e1
    cases e1
    refine rv_up R.ex x x1 r2 fun a ha o ho => ?_
    have na : a ∉ adr H v w := fun z => nj (R.sep j i a ⟨v', u, hj, hv', ha⟩ ⟨v, w, he, hv, z⟩)
    refine ⟨?_, only a o ho na⟩
    cases q : F1 a with
    | none => rfl
    | some y =>
      rcases fz a (by rw [q]; exact fun z => nomatch z) with z | z | z
      · exact absurd (rv_adr R.ex r2 ha).1 z
      · exact absurd z na
      · rw [ho] at z; cases z
  have ow0 : ∀ j a, Ow H1 σ (e.set i (some w')) j a → (j = i ∧ a ∈ adr H1 v w') ∨ (j ≠ i ∧ Ow H σ e j a) := by
    intro j a h
    rcases ow_set h with ⟨rfl, u, v', h1, h2, h3⟩ | ⟨nj, v', u, h1, h2, h3⟩
    · cases h1
      rw [hv] at h2
      cases h2
      exact .inl ⟨rfl, h3⟩
    · rw [(other j v' u nj h1 h2).2] at h3
      exact .inr ⟨nj, v', u, h1, h2, h3⟩
  have ow : ∀ j a, Ow H1 σ (e.set i (some w')) j a → (j = i ∧ (a ∈ adr H v w ∨ H a = none)) ∨ (j ≠ i ∧ Ow H σ e j a) := fun j a h => (ow0 j a h).imp (fun z => ⟨z.1, sub a z.2⟩) id
  refine ⟨⟨x1, by rw [List.length_set]; exact R.len, fun j u hj => ?_, fun j k a h1 h2 => ?_⟩, ⟨x, fun a o ho n => only a o ho fun z => n ⟨i, v, w, he, hv, z⟩, fun a h => ?_, fun a h => ?_, fun j xs h => ⟨rfl, ?_⟩, fun j xs h => ⟨rfl, ?_⟩, there⟩, fun a ⟨j, h⟩ => (ow0 j a h).imp (fun z => z.2) fun z => ⟨j, z.2⟩⟩
  · rcases getSet hj with ⟨rfl, z⟩ | ⟨nj, z⟩
    · cases z; exact ⟨v, hv, r⟩
    · obtain ⟨v', e1, _⟩ := R.at_ j u z
      exact ⟨v', e1, (other j v' u nj z e1).1⟩
  · have h0 : ∀ {j}, Ow H σ e j a → H a ≠ none := fun {j} z q => by
      obtain ⟨_, o, ho⟩ := R.owned ⟨j, z⟩
      rw [q] at ho
      cases ho
    rcases ow j a h1 with ⟨ej, z1⟩ | ⟨n1, z1⟩
    · rcases ow k a h2 with ⟨ek, z2⟩ | ⟨n2, z2⟩
      · rw [ej, ek]
      · rcases z1 with z1 | z1
        · exact absurd (R.sep k i a z2 ⟨v, w, he, hv, z1⟩) n2
        · exact absurd z1 (h0 z2)
    · rcases ow k a h2 with ⟨ek, z2⟩ | ⟨n2, z2⟩
      · rcases z2 with z2 | z2
        · exact absurd (R.sep j i a z1 ⟨v, w, he, hv, z2⟩) n1
        · exact absurd z2 (h0 z1)
      · exact R.sep j k a z1 z2
  · obtain ⟨j, h⟩ := h
    rcases ow j a h with ⟨_, z | z⟩ | ⟨_, z⟩
    · exact .inl ⟨i, v, w, he, hv, z⟩
    · exact .inr z
    · exact .inl ⟨j, z⟩
  · rcases fz a h with z | z | z
    · exact .inl z
    · exact .inr (.inl ⟨i, v, w, he, hv, z⟩)
    · exact .inr (.inr z)
  · by_cases hj : j = i
    · subst hj
      rw [he] at h
      obtain ⟨ys, hy⟩ := pb xs (Option.some.inj (Option.some.inj h))
      exact ⟨ys, by rw [List.getElem?_set_self li, hy]⟩
    · exact ⟨xs, by rw [List.getElem?_set_ne (Ne.symm hj)]; exact h⟩
  · by_cases hj : j = i
    · subst hj
      rw [he] at h
      obtain ⟨ys, hy⟩ := pt xs (Option.some.inj (Option.some.inj h))
      exact ⟨ys, by rw [List.getElem?_set_self li, hy]⟩
    · exact ⟨xs, by rw [List.getElem?_set_ne (Ne.symm hj)]; exact h⟩
theorem rel_chg (R : Rel K F H σ e) {i : Nat} {w w' : Wv} {v : V} {F1 H1 : Hp} (he : e[i]? = some (some w)) (hv : σ[i]? = some (some v)) (x : Ex F F1) (x1 : Ex F1 H1) (r : RV K F1 H1 v w') (only : ∀ a o, H a = some o → a ∉ adr H v w → H1 a = some o)
    (fz : ∀ a, F1 a ≠ none → F a ≠ none ∨ a ∈ adr H v w ∨ H a = none) (sub : ∀ a ∈ adr H1 v w', a ∈ adr H v w ∨ H a = none) (there : ∀ a, H a ≠ none → H1 a ≠ none) (pb : ∀ xs, w = .brw xs → ∃ ys, w' = .brw ys) (pt : ∀ t, w = .bt t → ∃ t', w' = .bt t') :
    Rel K F1 H1 σ (e.set i (some w')) ∧ Stp σ e F H σ (e.set i (some w')) F1 H1 :=
  ⟨(rel_chg3 R he hv x x1 r only fz sub there pb pt).1, (rel_chg3 R he hv x x1 r only fz sub there pb pt).2.1⟩
theorem ownAt_ow {i : Nat} {xs : List PyData} {p : Addr} (h : ownAt e i = some xs) (hp : σ[i]? = some (some (V.ref p))) : Ow H σ e i p := by
  unfold ownAt at h
  cases q : e[i]? with
  | none => rw [q] at h; cases h
  | some o =>
    cases o with
    | none => rw [q] at h; cases h
    | some w =>
      rw [q] at h
      cases w with
      | own ys => exact ⟨_, _, q, hp, List.mem_singleton.mpr rfl⟩
      | brw ys => exact ⟨_, _, q, hp, List.mem_singleton.mpr rfl⟩
      | _ => cases h
theorem upo_owned {i : Nat} {ys : List PyData} (h : upo e i ys = some e') {a : Addr} : Owned H σ e' a ↔ Owned H σ e a := by
  have go : ∀ (w w' : Wv), (∀ v, adr H v w = adr H v w') → e[i]? = some (some w) → e' = e.set i (some w') → (Owned H σ e' a ↔ Owned H σ e a) := by
    rintro w w' ha he rfl
    have li : i < e.length := (List.getElem?_eq_some_iff.mp he).1
    constructor
    · rintro ⟨j, h⟩
      rcases ow_set h with ⟨rfl, u, v, h1, h2, h3⟩ | ⟨_, z⟩
      · cases h1
        exact ⟨j, v, w, he, h2, by rw [ha]; exact h3⟩
      · exact ⟨j, z⟩
    · rintro ⟨j, v, u, h1, h2, h3⟩
      by_cases hj : j = i
      · subst hj
        rw [he] at h1
        cases h1
        exact ⟨j, v, w', by rw [List.getElem?_set_self li], h2, by rw [← ha]; exact h3⟩
      · exact ⟨j, v, u, by rw [List.getElem?_set_ne (Ne.symm hj)]; exact h1, h2, h3⟩
  rcases upo_shape h with ⟨xs, q, z⟩ | ⟨xs, q, z⟩
  · exact go _ _ (fun v => by cases v <;> rfl) q z
  · exact go _ _ (fun v => by cases v <;> rfl) q z
/-- the heap behind the change of the list of slot i -/
theorem upo_ok (R : Rel K F H σ e) {i : Nat} {p : Addr} {ws : List V} {ys : List PyData} (hp : σ[i]? = some (some (V.ref p))) (h : upo e i ys = some e') (hF : F p = none) (D : DpAll K F ws ys) (h0 : H p ≠ none) :
    Rel K F (upd H p (.lst ws)) σ e' ∧ Stp σ e F H σ e' F (upd H p (.lst ws)) := by
  have x1 : Ex F (upd H p (.lst ws)) := fun a o q => by
    rw [upd_ne (ne_of_none q hF)]; exact R.ex a o q
  have only : ∀ a o, H a = some o → a ∉ [p] → upd H p (.lst ws) a = some o := fun a o q n => by
    rw [upd_ne fun z => n (by rw [z]; exact List.mem_singleton.mpr rfl)]; exact q
  have th : ∀ a, H a ≠ none → upd H p (.lst ws) a ≠ none := fun a q => by
    by_cases ha : a = p
    · rw [ha, upd_same]; exact fun z => nomatch z
    · rw [upd_ne ha]; exact q
  rcases upo_shape h with ⟨xs, q, rfl⟩ | ⟨xs, q, rfl⟩
  · exact rel_chg R q hp (Ex.rfl' F) x1 ⟨p, ws, rfl, hF, upd_same, D⟩ only (fun a z => .inl z) (fun a z => .inl z) th (fun _ z => by cases z) (fun _ z => by cases z)
  · exact rel_chg R q hp (Ex.rfl' F) x1 ⟨p, ws, rfl, hF, upd_same, D⟩ only (fun a z => .inl z) (fun a z => .inl z) th (fun _ _ => ⟨ys, rfl⟩) (fun _ z => by cases z)
end
section
variable {X : Cx} {W : WX} {a b : Expr} {as : List Expr} {f g : DE} {fs : List DE} {pos apos cpos : Pos}
theorem pd_mt {T id : String} {name : Str} {op : PyData → List PyData → Option Wv} {r : V → List V → Hp → VK → Prop} (pa : PlainAttrs T) (slot : Slot T name id) (hty : typeOf (.builtin id) = pure (.type "method_descriptor")) (hm : MtR X id r)
    {ty : PyData → Bool} (hT : ∀ F H v x, Ex F H → DH X.K F H v x → ty x = true → tyV X.K T v H) (hr : OpM X.K T op r) (ho : PE X a (tD X.K W f)) (ha : PA X (b :: as) (tDA X.K W fs))
    (hbase : attributeBase a name X.env (eval a X.env) = eval a X.env := by rfl)
    (hfew : ((backTo cpos (starEach (b :: as) X.env)).all (fun x => !x.1) && (backToKw cpos (keywordEach [] X.env)).all (fun x => x.1.isSome)
      && decide ((b :: as).length + ([] : List Keyword).length + (if ([] : List Keyword).isEmpty then 0 else 1) < 30)) = true := by rfl)
    (hline : (apos.endLine == cpos.line) = true := by rfl) (hs : starEach (b :: as) X.env = (false, eval b X.env) :: starEach as X.env := by rfl) (hplain : (backTo cpos (starEach as X.env)).any (·.1) = false := by rfl) :
    PE X (.Call (.Attribute a name apos) (b :: as) [] cpos) (tD X.K W (dMt ty op f fs)) := by
  refine PE.to (pe_bm pa slot hty hm ho ha hbase hfew hline hs hplain) ?_
  rintro σ H Q ⟨F, e, R, h⟩
  refine ⟨F, e, R, Go.imp (Go.bnd h) ?_⟩
  rintro v H1 ⟨F1, e1, w1, R1, S1, V1, N1, h1⟩
  cases q : rs e1 w1 with
  | none => rw [q] at h1; exact h1.elim
  | some x =>
    rw [q] at h1
    have h1 : Go X.K W (brB (some (ty x)) (bndL (evs fs e1) fun ws e2 => optR ((rs e2 w1).bind fun x => (rss e2 ws).bind fun xs => op x xs) e2) .bad) σ e F H Q := h1
    cases q2 : ty x with
    | false => rw [q2] at h1; exact h1.elim
    | true =>
      rw [q2] at h1
      refine ⟨hT F1 H1 v x R1.ex (rs_dh R1 V1 q) q2, F1, e1, R1, GoL.imp (Go.bndL (Go.later S1 h1)) ?_⟩
      rintro vs H2 ⟨F2, e2, ws, R2, S2, V2, N2, h2⟩
      obtain ⟨z, qz, h2⟩ := h2.opt
      obtain ⟨y, q1, qz⟩ := Option.bind_eq_some_iff.mp qz
      obtain ⟨ys, q3, qz⟩ := Option.bind_eq_some_iff.mp qz
      exact hr F2 H2 v y vs ys z Q R2.ex (rs_dh R2 (V1.mono R1.ex R2.ex S2) q1) (rss_dh R2 V2 q3) qz (Go.new h2 S2 R2)
/-- xs.m(e, ..), xs the slot i: its list becomes what op tells, the value is r -/
def dMut (i : Nat) (op : List PyData → List PyData → Option (List PyData × PyData)) (fs : List DE) : DE := fun e => match ownAt e i with
  | none => .bad
  | some _ => bndL (evs fs e) fun ws e1 => match (ownAt e1 i).bind fun xs => (dats ws).bind fun ys => (op xs ys).bind fun p => (upo e1 i p.1).map fun e2 => (p.2, e2) with
    | some (x, e2) => .ok (.d x) e2
    | none => .bad
abbrev OpX (K : PySem.W.Frag) (op : List PyData → List PyData → Option (List PyData × PyData)) (r : V → List V → Hp → VK → Prop) : Prop :=
  ∀ (F H : Hp) (p : Addr) (us : List V) (xs : List PyData) (vs : List V) (ys : List PyData) (zs : List PyData) (x : PyData) (Q : VK), H p = some (.lst us) → DpAll K F us xs → DpAll K F vs ys → op xs ys = some (zs, x) →
    (∀ v ws, DpAll K F ws zs → Dp K F v x → Q v (upd H p (.lst ws))) → r (.ref p) vs H Q
theorem own_ty {K : PySem.W.Frag} {F H : Hp} {σ : St} {e : En} (R : Rel K F H σ e) {i : Nat} {xs : List PyData} (h : ownAt e i = some xs) : ∃ p, σ[i]? = some (some (V.ref p)) ∧ tyV K "list" (V.ref p) H := by
  obtain ⟨p, vs, h1, _, h2, _⟩ := own_at R h
  exact ⟨p, h1, .inl ⟨rfl, vs, SqL.of h2⟩⟩
theorem go_mut {i : Nat} {op : List PyData → List PyData → Option (List PyData × PyData)} {r : V → List V → Hp → VK → Prop} (hr : OpX X.K op r) {σ : St} {H F : Hp} {e e1 : En} {Q : VK} {vs : List V} {ws : List Wv} {H1 F1 : Hp} {p : Addr} (hp : σ[i]? = some (some (V.ref p)))
    (R1 : Rel X.K F1 H1 σ e1) (S1 : Stp σ e F H σ e1 F1 H1) (V1 : VVs X.K F1 H1 σ e1 vs ws)
    (h : Go X.K W (match (ownAt e1 i).bind fun xs => (dats ws).bind fun ys => (op xs ys).bind fun p => (upo e1 i p.1).map fun e2 => (p.2, e2) with
      | some (x, e2) => .ok (.d x) e2
      | none => .bad) σ e F H Q) : r (.ref p) vs H1 Q := by
  cases q : (ownAt e1 i).bind fun xs => (dats ws).bind fun ys => (op xs ys).bind fun p => (upo e1 i p.1).map fun e2 => (p.2, e2) with
  | none => rw [q] at h; exact h.elim
  | some z =>
    obtain ⟨x, e2⟩ := z
    rw [q] at h
    obtain ⟨xs, q1, q⟩ := Option.bind_eq_some_iff.mp q
    obtain ⟨ys, q2, q⟩ := Option.bind_eq_some_iff.mp q
    obtain ⟨⟨zs, x'⟩, q3, q⟩ := Option.bind_eq_some_iff.mp q
    obtain ⟨e3, q4, q⟩ := Option.map_eq_some_iff.mp q
    cases q
    obtain ⟨p', us, a1, a2, a3, a4, _, _⟩ := own_at R1 q1
    rw [hp] at a1
    cases a1
    refine hr F1 H1 p us xs vs ys zs x' Q a3 a4 (dats_ok V1 q2) q3 ?_
    intro v ws' dz dx
    obtain ⟨R2, S2⟩ := upo_ok R1 hp q4 a2 dz (by rw [a3]; exact fun z => nomatch z)
    exact h v _ F1 R2 (S1.tr S2) dx trivial
theorem pd_mut {id : String} {name x : Str} {i : Nat} {op : List PyData → List PyData → Option (List PyData × PyData)} {r : V → List V → Hp → VK → Prop} {p0 : Pos} (slot : Slot "list" name id) (hty : typeOf (.builtin id) = pure (.type "method_descriptor")) (hm : MtR X id r) (hr : OpX X.K op r)
    (ho : PE X (.Name x p0) (tVar i)) (ha : PA X (b :: as) (tDA X.K W fs))
    (hbase : attributeBase (.Name x p0) name X.env (eval (.Name x p0) X.env) = eval (.Name x p0) X.env := by rfl)
    (hfew : ((backTo cpos (starEach (b :: as) X.env)).all (fun x => !x.1) && (backToKw cpos (keywordEach [] X.env)).all (fun x => x.1.isSome)
      && decide ((b :: as).length + ([] : List Keyword).length + (if ([] : List Keyword).isEmpty then 0 else 1) < 30)) = true := by rfl)
    (hline : (apos.endLine == cpos.line) = true := by rfl) (hs : starEach (b :: as) X.env = (false, eval b X.env) :: starEach as X.env := by rfl) (hplain : (backTo cpos (starEach as X.env)).any (·.1) = false := by rfl) :
    PE X (.Call (.Attribute (.Name x p0) name apos) (b :: as) [] cpos) (tD X.K W (dMut i op fs)) := by
  refine PE.to (pe_bm PySem.F.plainAttrs_list slot hty hm ho ha hbase hfew hline hs hplain) ?_
  rintro σ H Q ⟨F, e, R, h⟩
  unfold dMut at h
  cases q : ownAt e i with
  | none => rw [q] at h; exact h.elim
  | some xs =>
    rw [q] at h
    obtain ⟨p, h1, h2⟩ := own_ty R q
    refine ⟨.ref p, h1, h2, F, e, R, GoL.imp (Go.bndL h) ?_⟩
    rintro vs H1 ⟨F1, e1, ws, R1, S1, V1, N1, h3⟩
    exact go_mut hr h1 R1 S1 V1 h3
theorem pd_mut0 {id : String} {name x : Str} {i : Nat} {op : List PyData → List PyData → Option (List PyData × PyData)} {r : V → List V → Hp → VK → Prop} {p0 : Pos} (slot : Slot "list" name id) (hty : typeOf (.builtin id) = pure (.type "method_descriptor")) (hm : MtR X id r) (hr : OpX X.K op r)
    (ho : PE X (.Name x p0) (tVar i)) (hbase : attributeBase (.Name x p0) name X.env (eval (.Name x p0) X.env) = eval (.Name x p0) X.env := by rfl) (hline : (apos.endLine == cpos.line) = true := by rfl) :
    PE X (.Call (.Attribute (.Name x p0) name apos) [] [] cpos) (tD X.K W (dMut i op [])) := by
  refine PE.to (pe_bm0 PySem.F.plainAttrs_list slot hty hm ho hbase hline) ?_
  rintro σ H Q ⟨F, e, R, h⟩
  unfold dMut at h
  cases q : ownAt e i with
  | none => rw [q] at h; exact h.elim
  | some xs =>
    rw [q] at h
    obtain ⟨p, h1, h2⟩ := own_ty R q
    exact ⟨.ref p, h1, h2, go_mut hr h1 R Stp.rfl' .nil h⟩
/-! ### the methods -/
def opApp : List PyData → List PyData → Option (List PyData × PyData) := fun xs ys => match ys with
  | [y] => if xs.length ≤ 1000000 then some (xs ++ [y], .none) else none
  | _ => none
theorem ox_app : OpX X.K opApp rAppend := by
  intro F H p us xs vs ys zs x Q hp d1 d2 q k
  unfold opApp at q
  cases d2 with
  | nil => cases q
  | cons h t =>
    cases t with
    | cons _ _ => cases q
    | nil =>
      by_cases hl : xs.length ≤ 1000000
      · simp only [if_pos hl, Option.some.injEq, Prod.mk.injEq] at q
        obtain ⟨rfl, rfl⟩ := q
        exact ⟨p, us, _, rfl, rfl, hp, lt_line (by rw [dpa_len d1]; exact hl), k _ _ (dpa_app d1 (.cons h .nil)) .non⟩
      · simp only [if_neg hl] at q; cases q
def opIns : List PyData → List PyData → Option (List PyData × PyData) := fun xs ys => match ys with
  | [.int i, y] => if xs.length ≤ 1000000 ∧ 0 ≤ i ∧ i ≤ 1000000 then some (xs.take i.toNat ++ [y] ++ xs.drop i.toNat, .none) else none
  | _ => none
abbrev rIns : V → List V → Hp → VK → Prop := fun x vs H Q => ∃ (l : Addr) (xs : List V) (i : Int) (y : V), x = .ref l ∧ vs = [.int i, y] ∧ H l = some (.lst xs) ∧ xs.length < sizeLine ∧ 0 ≤ i ∧ i < 2 ^ 63 ∧ Q .non (upd H l (.lst (xs.take i.toNat ++ [y] ++ xs.drop i.toNat)))
theorem ox_ins : OpX X.K opIns rIns := by
  intro F H p us xs vs ys zs x Q hp d1 d2 q k
  unfold opIns at q
  split at q
  · rename_i i y
    split at q
    · rename_i hl
      simp only [Option.some.injEq, Prod.mk.injEq] at q
      obtain ⟨rfl, rfl⟩ := q
      cases d2 with
      | cons h t =>
        cases t with
        | cons h2 t2 =>
          cases t2
          have ei := dp_int h
          subst ei
          refine ⟨p, us, i, _, rfl, rfl, hp, lt_line (by rw [dpa_len d1]; exact hl.1), hl.2.1, by omega, k _ _ ?_ .non⟩
          exact dpa_app (dpa_app (dpa_take _ d1) (.cons h2 .nil)) (dpa_drop _ d1)
    · cases q
  · cases q
def opClr : List PyData → List PyData → Option (List PyData × PyData) := fun xs ys => match ys with
  | [] => some ([], .none)
  | _ => none
theorem ox_clr : OpX X.K opClr rClear := by
  intro F H p us xs vs ys zs x Q hp d1 d2 q k
  unfold opClr at q
  cases d2 with
  | cons _ _ => cases q
  | nil =>
    cases q
    exact ⟨p, us, rfl, rfl, hp, k _ _ .nil .non⟩
end
end Vf
/-! Statements. -/
namespace Vf
open PySem PySem.Spec L2
open PyProof.Rows hiding St
inductive Out where
  | nx (e : En)
  | rt (w : Wv) (e : En)
  | bk (e : En)
  | ct (e : En)
  | err (c : Str) (e : En)
  | bad
abbrev DS := En → Out
def bndS (o : Out) (k : En → Out) : Out := match o with
  | .nx e => k e
  | .rt w e => .rt w e
  | .bk e => .bk e
  | .ct e => .ct e
  | .err c e => .err c e
  | .bad => .bad
def bndE (r : Rs) (k : Wv → En → Out) : Out := match r with
  | .ok w e => k w e
  | .err c e => .err c e
  | .bad => .bad
/-- what is handed back: it was a slot's alone, or it is new -/
def NwO (σ : St) (e : En) (H H' : Hp) (v : V) : Wv → Prop
  | .own _ => ∀ p, v = V.ref p → Owned H σ e p ∨ H p = none
  | .fo _ => ∀ p, v = V.ref p → Owned H σ e p ∨ H p = none
  | .ot t => ∀ a ∈ oad H' v t, Owned H σ e a ∨ H a = none
  | _ => True
def SGo (K : PySem.W.Frag) (W : WX) (o : Out) (σ : St) (e : En) (F H : Hp) (D : Ends) : Prop := match o with
  | .nx e' => ∀ σ' H' F', Rel K F' H' σ' e' → Stp σ e F H σ' e' F' H' → D.nx σ' H'
  | .rt w e' => ∀ v σ' H' F', Rel K F' H' σ' e' → Stp σ e F H σ' e' F' H' → VV K F' H' σ' e' v w → NwO σ e H H' v w → D.rt v H'
  | .bk e' => ∀ σ' H' F', Rel K F' H' σ' e' → Stp σ e F H σ' e' F' H' → D.bk σ' H'
  | .ct e' => ∀ σ' H' F', Rel K F' H' σ' e' → Stp σ e F H σ' e' F' H' → D.ct σ' H'
  | .err c e' => ∀ σ' H' F', Rel K F' H' σ' e' → Stp σ e F H σ' e' F' H' → W (cl K c) none σ' H'
  | .bad => False
def tDS (K : PySem.W.Frag) (W : WX) (f : DS) : TS := fun D σ H => ∃ F e, Rel K F H σ e ∧ SGo K W (f e) σ e F H D
theorem PSs.to {X : Cx} {st : List Stmt} {t t' : TS} (h : PSs X st t) (k : ∀ D σ H, t' D σ H → t D σ H) : PSs X st t' :=
  ⟨fun pins s σ H D I q => h.run pins s σ H D I (k D σ H q)⟩
theorem PS.to {X : Cx} {st : Stmt} {t t' : TS} (h : PS X st t) (k : ∀ D σ H, t' D σ H → t D σ H) : PS X st t' :=
  ⟨fun pins s σ H D I q => h.run pins s σ H D I (k D σ H q)⟩
section
variable {K : PySem.W.Frag} {F H F' H' : Hp} {σ σ' : St} {e e' : En} {v : V} {w : Wv} {W : WX}
theorem Nw.toO (h : Nw H H' v w) : NwO σ e H H' v w := by
  cases w with
  | own xs => exact fun p hp => .inr (h p hp)
  | fo xs => exact fun p hp => .inr (h p hp)
  | ot t => exact fun p hp => .inr (h p hp)
  | _ => trivial
theorem NwO.back {σ1 : St} {e1 : En} {F1 H1 : Hp} (S : Stp σ e F H σ1 e1 F1 H1) (h : NwO σ1 e1 H1 H' v w) : NwO σ e H H' v w := by
  have go : ∀ p, Owned H1 σ1 e1 p ∨ H1 p = none → Owned H σ e p ∨ H p = none := fun p z => by
    rcases z with z | z
    · exact S.shr p z
    · right
      cases q : H p with
      | none => rfl
      | some o => exact absurd z (S.there p (by rw [q]; exact fun z => nomatch z))
  cases w with
  | own xs => exact fun p hp => go p (h p hp)
  | fo xs => exact fun p hp => go p (h p hp)
  | ot t => exact fun p hp => go p (h p hp)
  | _ => trivial
theorem SGo.later {o : Out} {D : Ends} {σ1 : St} {e1 : En} {F1 H1 : Hp} (S : Stp σ e F H σ1 e1 F1 H1) (h : SGo K W o σ e F H D) : SGo K W o σ1 e1 F1 H1 D := by
  cases o with
  | nx e' => exact fun σ' H' F' a b => h σ' H' F' a (S.tr b)
  | rt w e' => exact fun v σ' H' F' a b c d => h v σ' H' F' a (S.tr b) c (d.back S)
  | bk e' => exact fun σ' H' F' a b => h σ' H' F' a (S.tr b)
  | ct e' => exact fun σ' H' F' a b => h σ' H' F' a (S.tr b)
  | err c e' => exact fun σ' H' F' a b => h σ' H' F' a (S.tr b)
  | bad => exact h
theorem SGo.imp {o : Out} {D D' : Ends} (h : SGo K W o σ e F H D) (k1 : ∀ σ' H', D.nx σ' H' → D'.nx σ' H') (k2 : ∀ v H', D.rt v H' → D'.rt v H') (k3 : ∀ σ' H', D.bk σ' H' → D'.bk σ' H') (k4 : ∀ σ' H', D.ct σ' H' → D'.ct σ' H') : SGo K W o σ e F H D' := by
  cases o with
  | nx e' => exact fun σ' H' F' a b => k1 _ _ (h σ' H' F' a b)
  | rt w e' => exact fun v σ' H' F' a b c d => k2 _ _ (h v σ' H' F' a b c d)
  | bk e' => exact fun σ' H' F' a b => k3 _ _ (h σ' H' F' a b)
  | ct e' => exact fun σ' H' F' a b => k4 _ _ (h σ' H' F' a b)
  | err c e' => exact h
  | bad => exact h
theorem SGo.bndE {r : Rs} {k : Wv → En → Out} {D : Ends} (h : SGo K W (bndE r k) σ e F H D) :
    Go K W r σ e F H fun v H1 => ∃ F1 e1 w1, Rel K F1 H1 σ e1 ∧ Stp σ e F H σ e1 F1 H1 ∧ VV K F1 H1 σ e1 v w1 ∧ Nw H H1 v w1 ∧ SGo K W (k w1 e1) σ e F H D := by
  cases r with
  | ok w1 e1 => exact fun v H1 F1 R S V N => ⟨F1, e1, w1, R, S, V, N, h⟩
  | err c e1 => exact fun H' F' a b => h σ H' F' a b
  | bad => exact h
theorem SGo.bndS {o : Out} {k : En → Out} {D : Ends} (h : SGo K W (bndS o k) σ e F H D) :
    SGo K W o σ e F H { D with nx := fun σ1 H1 => ∃ F1 e1, Rel K F1 H1 σ1 e1 ∧ Stp σ e F H σ1 e1 F1 H1 ∧ SGo K W (k e1) σ e F H D } := by
  cases o with
  | nx e1 => exact fun σ1 H1 F1 R S => ⟨F1, e1, R, S, h⟩
  | rt w e' => exact h
  | bk e' => exact h
  | ct e' => exact h
  | err c e1 => exact h
  | bad => exact h
/-! ### slots set -/
def notOwn (o : Option (Option Wv)) : Bool := match o with
  | some (some (.own _)) => false
  | some (some (.brw _)) => false
  | some (some (.ot _)) => false
  | some (some (.bt _)) => false
  | some (some (.fo _)) => false
  | _ => true
def notBrw (o : Option (Option Wv)) : Bool := match o with
  | some (some (.brw _)) => false
  | some (some (.bt _)) => false
  | some _ => true
  | none => false
/-- a slot is set -/
def setW (e : En) (j : Nat) (w : Wv) : Option En := if notBrw e[j]? = true then some (e.set j (some w)) else none
theorem setW_some {j : Nat} {w : Wv} (h : setW e j w = some e') : j < e.length ∧ ((∀ xs, e[j]? ≠ some (some (Wv.brw xs))) ∧ ∀ t, e[j]? ≠ some (some (Wv.bt t))) ∧ e' = e.set j (some w) := by
  unfold setW at h
  by_cases q : notBrw e[j]? = true
  · rw [if_pos q] at h
    cases h
    refine ⟨?_, ⟨fun xs z => ?_, fun xs z => ?_⟩, rfl⟩
    · cases z : e[j]? with
      | none => rw [z] at q; cases q
      | some _ => exact (List.getElem?_eq_some_iff.mp z).1
    · rw [z] at q; cases q
    · rw [z] at q; cases q
  · rw [if_neg q] at h; cases h
theorem setW_ok {F0 H0 : Hp} {σ0 : St} {e0 : En} {j : Nat} (S : Stp σ0 e0 F0 H0 σ e F H) (R : Rel K F H σ e) (r : RV K F H v w) (no : ∀ a ∈ adr H v w, ¬ Owned H σ e a ∧ H0 a = none) (h : setW e j w = some e') :
    Rel K F H (σ.set j (some v)) e' ∧ Stp σ0 e0 F0 H0 (σ.set j (some v)) e' F H := by
  obtain ⟨hj, hb, rfl⟩ := setW_some h
  have hσ : j < σ.length := by rw [R.len]; exact hj
  have ow : ∀ k a, Ow H (σ.set j (some v)) (e.set j (some w)) k a → (k = j ∧ a ∈ adr H v w) ∨ (k ≠ j ∧ Ow H σ e k a) := by
    intro k a h
    rcases ow_set h with ⟨rfl, u, v', h1, h2, h3⟩ | ⟨nk, v', u, h1, h2, h3⟩
    · cases h1
      rw [List.getElem?_set_self hσ] at h2
      cases h2
      exact .inl ⟨rfl, h3⟩
    · rw [List.getElem?_set_ne (Ne.symm nk)] at h2
      exact .inr ⟨nk, v', u, h1, h2, h3⟩
  refine ⟨⟨R.ex, by rw [List.length_set, List.length_set]; exact R.len, fun i u hi => ?_, fun i k p oi ok => ?_⟩, ⟨S.sub, S.keep, fun a q => ?_, S.grow, fun i xs q => ?_, fun i xs q => ?_, S.there⟩⟩
  · rcases getSet hi with ⟨rfl, q⟩ | ⟨ni, q⟩
    · cases q
      exact ⟨v, by rw [List.getElem?_set_self hσ], r⟩
    · obtain ⟨v', e1, r'⟩ := R.at_ i u q
      exact ⟨v', by rw [List.getElem?_set_ne (Ne.symm ni)]; exact e1, r'⟩
  · rcases ow i p oi with ⟨z1, o1⟩ | ⟨n1, o1⟩
    · rcases ow k p ok with ⟨z2, o2⟩ | ⟨n2, o2⟩
      · rw [z1, z2]
      · exact absurd ⟨k, o2⟩ (no p o1).1
    · rcases ow k p ok with ⟨z2, o2⟩ | ⟨n2, o2⟩
      · exact absurd ⟨i, o1⟩ (no p o2).1
      · exact R.sep i k p o1 o2
  · obtain ⟨k, q⟩ := q
    rcases ow k a q with ⟨_, z⟩ | ⟨_, z⟩
    · exact .inr (no a z).2
    · exact S.shr a ⟨k, z⟩
  · obtain ⟨h1, ys, h2⟩ := S.pin i xs q
    have ni : i ≠ j := fun z => hb.1 ys (by rw [← z]; exact h2)
    exact ⟨by rw [List.getElem?_set_ne (Ne.symm ni)]; exact h1, ys, by rw [List.getElem?_set_ne (Ne.symm ni)]; exact h2⟩
  · obtain ⟨h1, ys, h2⟩ := S.pin2 i xs q
    have ni : i ≠ j := fun z => hb.2 ys (by rw [← z]; exact h2)
    exact ⟨by rw [List.getElem?_set_ne (Ne.symm ni)]; exact h1, ys, by rw [List.getElem?_set_ne (Ne.symm ni)]; exact h2⟩
theorem setW_d {F0 H0 : Hp} {σ0 : St} {e0 : En} {j : Nat} {x : PyData} (S : Stp σ0 e0 F0 H0 σ e F H) (R : Rel K F H σ e) (r : Dp K F v x) (h : setW e j (.d x) = some e') :
    Rel K F H (σ.set j (some v)) e' ∧ Stp σ0 e0 F0 H0 (σ.set j (some v)) e' F H := setW_ok (w := .d x) S R r (fun a ha => by cases ha) h
/-- name = value -/
def asgE (e : En) (j : Nat) : Wv → Option En
  | .d x => setW e j (.d x)
  | .own xs => setW e j (.own xs)
  | .exc c => setW e j (.exc c)
  | .ot t => setW e j (.ot t)
  | .fo t => setW e j (.fo t)
  | .ff t => setW e j (.ff t)
  | .loc i => (es e (.loc i)).bind fun p => setW p.2 j (.d p.1)
  | _ => none
theorem asgE_ok {F0 H0 : Hp} {σ0 : St} {e0 : En} {j : Nat} (hσ : σ0 = σ) (S : Stp σ0 e0 F0 H0 σ e F H) (R : Rel K F H σ e) (V : VV K F H σ e v w) (N : Nw H0 H v w) (h : asgE e j w = some e') :
    ∃ F', Rel K F' H (σ.set j (some v)) e' ∧ Stp σ0 e0 F0 H0 (σ.set j (some v)) e' F' H := by
  subst hσ
  have go : (∀ xs, w ≠ .brw xs) → (∀ t, w ≠ .bt t) → (∀ i, w ≠ .loc i) → setW e j w = some e' → ∃ F', Rel K F' H (σ0.set j (some v)) e' ∧ Stp σ0 e0 F0 H0 (σ0.set j (some v)) e' F' H := fun n1 n2 n3 h => by
    obtain ⟨r, n⟩ := (vv_iff n1 n2 n3).mp V
    exact ⟨F, setW_ok S R r (fun a ha => ⟨n a ha, (nw_iff n1 n2).mp N a ha⟩) h⟩
  cases w with
  | brw xs => exact V.elim
  | bt xs => exact V.elim
  | loc i =>
    obtain ⟨⟨x, e1⟩, q, h⟩ := Option.bind_eq_some_iff.mp h
    obtain ⟨F1, R1, S1, D1⟩ := es_ok S R V N q
    exact ⟨F1, setW_d S1 R1 D1 h⟩
  | _ => exact go (fun _ => nofun) (fun _ => nofun) (fun _ => nofun) h
def dAsg (j : Nat) (f : DE) : DS := fun e => bndE (f e) fun w e1 => match asgE e1 j w with
  | some e2 => .nx e2
  | none => .bad
def optS (o : Option En) : Out := match o with
  | some e => .nx e
  | none => .bad
theorem SGo.opt {o : Option En} {D : Ends} {σ0 : St} {e0 : En} {F0 H0 : Hp} (h : SGo K W (optS o) σ0 e0 F0 H0 D) : ∃ e1, o = some e1 ∧ SGo K W (.nx e1) σ0 e0 F0 H0 D := by
  cases o with
  | none => exact h.elim
  | some z => exact ⟨z, rfl, h⟩
end
section
variable {X : Cx} {W : WX} {a b : Expr} {as : List Expr} {f g : DE} {pos : Pos} {st : Stmt} {rest : List Stmt} {s t : DS}
theorem go_asg {σ : St} {H F : Hp} {e : En} {D : Ends} {j : Nat} {v : V} {H1 F1 : Hp} {e1 : En} {w1 : Wv} (R1 : Rel X.K F1 H1 σ e1) (S1 : Stp σ e F H σ e1 F1 H1) (V1 : VV X.K F1 H1 σ e1 v w1) (N1 : Nw H H1 v w1)
    (h1 : SGo X.K W (match asgE e1 j w1 with
      | some e2 => .nx e2
      | none => .bad) σ e F H D) : D.nx (σ.set j (some v)) H1 := by
  cases q : asgE e1 j w1 with
  | none => rw [q] at h1; exact h1.elim
  | some e2 =>
    rw [q] at h1
    obtain ⟨F2, R2, S2⟩ := asgE_ok rfl S1 R1 V1 N1 q
    exact h1 _ _ F2 R2 S2
theorem ps_d_set {j : Nat} (h : PS X st (tAsg (tD X.K W f) (gName j))) : PS X st (tDS X.K W (dAsg j f)) := by
  refine PS.to h ?_
  rintro D σ H ⟨F, e, R, h⟩
  refine ⟨F, e, R, Go.imp (SGo.bndE h) ?_⟩
  rintro v H1 ⟨F1, e1, w1, R1, S1, V1, N1, h1⟩
  exact go_asg R1 S1 V1 N1 h1
def dNext : DS := fun e => .nx e
def dSeq (s t : DS) : DS := fun e => bndS (s e) t
theorem pss_d_nil : PSs X [] (tDS X.K W dNext) := PSs.to pss_nil fun D σ H ⟨F, e, R, h⟩ => h σ H F R Stp.rfl'
theorem pss_d_cons (h1 : PS X st (tDS X.K W s)) (h2 : PSs X rest (tDS X.K W t)) : PSs X (st :: rest) (tDS X.K W (dSeq s t)) := by
  refine PSs.to (pss_cons h1 h2) ?_
  rintro D σ H ⟨F, e, R, h⟩
  refine ⟨F, e, R, SGo.imp (SGo.bndS h) ?_ (fun _ _ q => q) (fun _ _ q => q) (fun _ _ q => q)⟩
  rintro σ1 H1 ⟨F1, e1, R1, S1, h1⟩
  exact ⟨F1, e1, R1, SGo.later S1 h1⟩
/-- a slot's value leaves with it: the frame is done -/
def mvOut (e : En) : Wv → Option (Wv × En)
  | .loc i => (match e[i]? with
    | some (some (.own xs)) => some (.own xs, e.set i none)
    | some (some (.ot t)) => some (.ot t, e.set i none)
    | some (some (.fo t)) => some (.fo t, e.set i none)
    | some (some (.d x)) => some (.d x, e)
    | _ => none)
  | .brw _ => none
  | .bt _ => none
  | w => some (w, e)
def dRet (f : DE) : DS := fun e => bndE (f e) fun w e1 => match mvOut e1 w with
  | some (w', e2) => .rt w' e2
  | none => .bad
theorem ow_drop {H : Hp} {σ : St} {e : En} {i j : Nat} {a : Addr} (h : Ow H σ (e.set i none) j a) : j ≠ i ∧ Ow H σ e j a := ow_set_no (fun _ _ h => by cases h) h
theorem rel_drop {K : PySem.W.Frag} {F H : Hp} {σ : St} {e : En} (R : Rel K F H σ e) (i : Nat) : Rel K F H σ (e.set i none) where
  ex := R.ex
  len := by rw [List.length_set]; exact R.len
  at_ := fun j w hj => by
    rcases getSet hj with ⟨_, q⟩ | ⟨_, q⟩
    · cases q
    · exact R.at_ j w q
  sep := fun j k p oj ok => R.sep j k p (ow_drop oj).2 (ow_drop ok).2
theorem mvOut_ok {K : PySem.W.Frag} {F H F1 H1 : Hp} {σ : St} {e e1 e2 : En} {v : V} {w1 w' : Wv} (R1 : Rel K F1 H1 σ e1) (S1 : Stp σ e F H σ e1 F1 H1) (V1 : VV K F1 H1 σ e1 v w1) (N1 : Nw H H1 v w1) (h : mvOut e1 w1 = some (w', e2)) :
    Rel K F1 H1 σ e2 ∧ Stp σ e F H σ e2 F1 H1 ∧ VV K F1 H1 σ e2 v w' ∧ NwO σ e H H1 v w' := by
  cases w1 with
  | brw xs => cases h
  | bt xs => cases h
  | loc i =>
    have hv : σ[i]? = some (some v) := V1
    have h : (match e1[i]? with
      | some (some (.own xs)) => some (Wv.own xs, e1.set i none)
      | some (some (.ot t)) => some (.ot t, e1.set i none)
      | some (some (.fo t)) => some (.fo t, e1.set i none)
      | some (some (.d x)) => some (.d x, e1)
      | _ => none) = some (w', e2) := h
    cases he : e1[i]? with
    | none => rw [he] at h; cases h
    | some o =>
      cases o with
      | none => rw [he] at h; cases h
      | some w =>
        obtain ⟨v', ev, r⟩ := R1.at_ i w he
        rw [hv] at ev
        cases ev
        rw [he] at h
        -- a thing of its own
        have own : (∀ xs, w ≠ .brw xs) → (∀ t, w ≠ .bt t) → (∀ i, w ≠ .loc i) → Rel K F1 H1 σ (e1.set i none) ∧ Stp σ e F H σ (e1.set i none) F1 H1 ∧ VV K F1 H1 σ (e1.set i none) v w ∧ ∀ a ∈ adr H1 v w, Owned H σ e a ∨ H a = none := fun n1 n2 n3 => by
          refine ⟨rel_drop R1 i, ⟨S1.sub, S1.keep, fun a q => ?_, S1.grow, fun j ys q => ?_, fun j ys q => ?_, S1.there⟩, (vv_iff n1 n2 n3).mpr ⟨r, fun a ha z => ?_⟩, fun a ha => S1.shr a ⟨i, v, w, he, hv, ha⟩⟩
          · obtain ⟨j, q⟩ := q
            exact S1.shr a ⟨j, (ow_drop q).2⟩
          · obtain ⟨g1, zs, g2⟩ := S1.pin j ys q
            have nj : i ≠ j := fun z => by rw [← z, he] at g2; exact n1 zs (Option.some.inj (Option.some.inj g2))
            exact ⟨g1, zs, by rw [List.getElem?_set_ne nj]; exact g2⟩
          · obtain ⟨g1, zs, g2⟩ := S1.pin2 j ys q
            have nj : i ≠ j := fun z => by rw [← z, he] at g2; exact n2 zs (Option.some.inj (Option.some.inj g2))
            exact ⟨g1, zs, by rw [List.getElem?_set_ne nj]; exact g2⟩
          · obtain ⟨j, z⟩ := z
            obtain ⟨nj, z⟩ := ow_drop z
            exact nj (R1.sep j i a z ⟨v, w, he, hv, ha⟩)
        cases w with
        | d x => cases h; exact ⟨R1, S1, r, trivial⟩
        | own xs =>
          cases h
          obtain ⟨g1, g2, g3, g4⟩ := own (fun _ => nofun) (fun _ => nofun) (fun _ => nofun)
          exact ⟨g1, g2, g3, fun p hp => g4 p (by rw [hp]; exact List.mem_singleton.mpr rfl)⟩
        | fo xs =>
          cases h
          obtain ⟨g1, g2, g3, g4⟩ := own (fun _ => nofun) (fun _ => nofun) (fun _ => nofun)
          exact ⟨g1, g2, g3, fun p hp => g4 p (by rw [hp]; exact List.mem_singleton.mpr rfl)⟩
        | ot t =>
          cases h
          obtain ⟨g1, g2, g3, g4⟩ := own (fun _ => nofun) (fun _ => nofun) (fun _ => nofun)
          exact ⟨g1, g2, g3, g4⟩
        | _ => cases h
  | _ => cases h; exact ⟨R1, S1, V1, N1.toO⟩
theorem ps_d_ret (ha : PE X a (tD X.K W f)) : PS X (.Return (some a) pos) (tDS X.K W (dRet f)) := by
  refine PS.to (ps_ret ha) ?_
  rintro D σ H ⟨F, e, R, h⟩
  refine ⟨F, e, R, Go.imp (SGo.bndE h) ?_⟩
  rintro v H1 ⟨F1, e1, w1, R1, S1, V1, N1, h1⟩
  cases q : mvOut e1 w1 with
  | none => rw [q] at h1; exact h1.elim
  | some p =>
    rw [q] at h1
    obtain ⟨g1, g2, g3, g4⟩ := mvOut_ok R1 S1 V1 N1 q
    exact h1 v σ H1 F1 g1 g2 g3 g4
def dRetN : DS := fun e => .rt (.d .none) e
theorem ps_d_retN : PS X (.Return none pos) (tDS X.K W dRetN) := PS.to ps_retN fun D σ H ⟨F, e, R, h⟩ => h .non σ H F R Stp.rfl' .non trivial
def dDrop (f : DE) : DS := fun e => bndE (f e) fun _ e1 => .nx e1
theorem ps_d_expr (ha : PE X a (tD X.K W f)) (hs : swapsWith a none pos.line X.env = pure false := by rfl) : PS X (.Expr a pos) (tDS X.K W (dDrop f)) := by
  refine PS.to (ps_expr ha hs) ?_
  rintro D σ H ⟨F, e, R, h⟩
  refine ⟨F, e, R, Go.imp (SGo.bndE h) ?_⟩
  rintro v H1 ⟨F1, e1, w1, R1, S1, V1, N1, h1⟩
  exact h1 σ H1 F1 R1 S1
theorem ps_d_doc {x : Str} {j : Nat} {p1 p2 : Pos} : PS X (.Expr (.Constant (.str x) j p1) p2) (tDS X.K W dNext) := PS.to ps_doc fun D σ H ⟨F, e, R, h⟩ => h σ H F R Stp.rfl'
theorem ps_d_pass : PS X (.Pass pos) (tDS X.K W dNext) := PS.to ps_pass fun D σ H ⟨F, e, R, h⟩ => h σ H F R Stp.rfl'
def dBrk : DS := fun e => .bk e
def dCnt : DS := fun e => .ct e
theorem ps_d_break : PS X (.Break pos) (tDS X.K W dBrk) := PS.to ps_break fun D σ H ⟨F, e, R, h⟩ => h σ H F R Stp.rfl'
theorem ps_d_cont : PS X (.Continue pos) (tDS X.K W dCnt) := PS.to ps_continue fun D σ H ⟨F, e, R, h⟩ => h σ H F R Stp.rfl'
def brS (o : Option Bool) (y n : Out) : Out := match o with
  | some true => y
  | some false => n
  | none => .bad
def dIf (c : DE) (s t : DS) : DS := fun e => bndE (c e) fun w e1 => brS (isB (rs e1 w)) (s e1) (t e1)
theorem ps_d_if {c : Expr} {fc : DE} {sa sb : List Stmt} (hc : PT X c (tDT X.K W fc)) (ha : PSs X sa (tDS X.K W s)) (hb : PSs X sb (tDS X.K W t)) : PS X (.If c sa sb pos) (tDS X.K W (dIf fc s t)) := by
  refine PS.to (ps_if hc ha hb) ?_
  rintro D σ H ⟨F, e, R, h⟩
  refine ⟨F, e, R, ?_⟩
  have h : SGo X.K W (bndE (fc e) fun w e1 => brS (isB (rs e1 w)) (s e1) (t e1)) σ e F H D := h
  cases q : fc e with
  | bad => rw [q] at h; exact h
  | err c e1 =>
    rw [q] at h
    exact fun H' F' a b => h σ H' F' a b
  | ok w e1 =>
    rw [q] at h
    have h : SGo X.K W (brS (isB (rs e1 w)) (s e1) (t e1)) σ e F H D := h
    cases z : isB (rs e1 w) with
    | none => rw [z] at h; exact h.elim
    | some b =>
      rw [z] at h
      refine ⟨b, isB_some z, fun H1 F1 R1 S1 => ?_⟩
      cases b with
      | true => exact ⟨F1, e1, R1, SGo.later S1 h⟩
      | false => exact ⟨F1, e1, R1, SGo.later S1 h⟩
/-! ### targets -/
/-- what a target does with data -/
structure TgOk (K : PySem.W.Frag) (js : List Nat) (g : TG) (tg : PyData → En → Option En) : Prop where
  go : ∀ (F H : Hp) (σ : St) (e : En) (v : V) (x : PyData) (e' : En) (Q : St → Hp → Prop), Rel K F H σ e → Dp K F v x → tg x e = some e' → (∀ σ', Rel K F H σ' e' → Stp σ e F H σ' e' F H → σ'.length = σ.length → (∀ i, i ∉ js → σ'[i]? = σ[i]?) → Q σ' H) → g v σ H Q
def tgName (j : Nat) : PyData → En → Option En := fun x e => setW e j (.d x)
theorem tg_name {K : PySem.W.Frag} {j : Nat} : TgOk K [j] (gName j) (tgName j) := ⟨fun F H σ e v x e' Q R d h k => by
  obtain ⟨R1, S1⟩ := setW_d Stp.rfl' R d h
  exact k _ R1 S1 (List.length_set ..) fun i hi => List.getElem?_set_ne (fun z => hi (by rw [z]; exact List.mem_singleton.mpr rfl))⟩
def tgAll : List Nat → List PyData → En → Option En
  | [], [], e => some e
  | j :: js, x :: xs, e => (setW e j (.d x)).bind fun e1 => tgAll js xs e1
  | _, _, _ => none
def tgTup (js : List Nat) : PyData → En → Option En := fun x e => match x with
  | .tuple xs => tgAll js xs e
  | _ => none
def gAll : List Nat → TGs
  | [] => gNil
  | j :: js => gCons (gName j) (gAll js)
theorem tg_all {K : PySem.W.Frag} {F H : Hp} {Q : St → Hp → Prop} : ∀ (js : List Nat) (vs : List V) (xs : List PyData) (σ : St) (e e' : En), Rel K F H σ e → DpAll K F vs xs → tgAll js xs e = some e' →
    (∀ σ', Rel K F H σ' e' → Stp σ e F H σ' e' F H → σ'.length = σ.length → (∀ i, i ∉ js → σ'[i]? = σ[i]?) → Q σ' H) → gAll js vs σ H Q
  | [], _, _, σ, e, e', R, .nil, h, k => by
    cases h
    exact ⟨rfl, k σ R Stp.rfl' rfl fun _ _ => rfl⟩
  | [], _, _, _, _, _, _, .cons _ _, h, _ => by cases h
  | _ :: _, _, _, _, _, _, _, .nil, h, _ => by cases h
  | j :: js, _, _, σ, e, e', R, .cons (v := v) (vs := vs) (d := x) (ds := xs) d ds, h, k => by
    obtain ⟨e1, h1, h2⟩ := Option.bind_eq_some_iff.mp h
    obtain ⟨R1, S1⟩ := setW_d Stp.rfl' R d h1
    refine ⟨v, vs, rfl, tg_all js vs xs _ e1 e' R1 ds h2 fun σ' R2 S2 hl hi => k σ' R2 (S1.tr S2) (by rw [hl, List.length_set]) fun i ni => ?_⟩
    rw [hi i fun z => ni (List.mem_cons_of_mem _ z), List.getElem?_set_ne fun z => ni (by rw [z]; exact List.mem_cons_self)]
theorem tgAll_len : ∀ {js : List Nat} {xs : List PyData} {e e' : En}, tgAll js xs e = some e' → xs.length = js.length
  | [], [], _, _, _ => rfl
  | [], _ :: _, _, _, h => by cases h
  | _ :: _, [], _, _, h => by cases h
  | j :: js, x :: xs, _, _, h => by
    obtain ⟨e1, _, h2⟩ := Option.bind_eq_some_iff.mp h
    rw [List.length_cons, List.length_cons, tgAll_len h2]
theorem tg_tup {K : PySem.W.Frag} {js : List Nat} {n : Nat} (hn : n = js.length) : TgOk K js (gTup K n (gAll js)) (tgTup js) := ⟨fun F H σ e v x e' Q R d h k => by
  cases x with
  | tuple xs =>
    obtain ⟨a, vs, rfl, hs, da⟩ := dp_tup_ref d
    exact ⟨a, vs, rfl, sqt_ex R.ex hs, by rw [dpa_len da, hn]; exact tgAll_len h, tg_all js vs xs σ e e' R da h k⟩
  | _ => cases h⟩
/-- a, b = value -/
def dAsgT (tg : PyData → En → Option En) (f : DE) : DS := fun e => bndE (esR (f e)) fun w e1 => optS ((dat1 w).bind fun x => tg x e1)
theorem ps_d_tup {js : List Nat} {g' : TG} {tg : PyData → En → Option En} (T : TgOk X.K js g' tg) (h : PS X st (tAsg (tD X.K W (dEs f)) g')) : PS X st (tDS X.K W (dAsgT tg f)) := by
  refine PS.to h ?_
  rintro D σ H ⟨F, e, R, h⟩
  refine ⟨F, e, R, Go.imp (SGo.bndE (r := esR (f e)) h) ?_⟩
  rintro v H1 ⟨F1, e1, w1, R1, S1, V1, N1, h1⟩
  obtain ⟨e2, q, hz⟩ := h1.opt
  obtain ⟨x, q1, q⟩ := Option.bind_eq_some_iff.mp q
  have ew : w1 = .d x := by
    cases w1 with
    | d y => cases q1; rfl
    | _ => cases q1
  subst ew
  exact T.go F1 H1 σ e1 v x e2 _ R1 V1 q fun σ' R2 S2 _ _ => hz σ' H1 F1 R2 (S1.tr S2)
/-- xs[k] = value -/
def dSetI (j : Nat) (fk f : DE) : DS := fun e => bndE (esR (f e)) fun w e1 => bndE (fk e1) fun wk e2 => optS ((dat1 w).bind fun x => (rs e2 wk).bind fun k => match k with
  | .int k => (ownAt e2 j).bind fun xs => (ixN xs.length k).bind fun n => upo e2 j (xs.set n x)
  | _ => none)
def dHas (j : Nat) (s : DS) : DS := fun e => match ownAt e j with
  | some _ => s e
  | none => .bad
theorem ps_d_seti {j : Nat} {x : Str} {p0 : Pos} (h : PS X st (tAsg (tD X.K W (dEs f)) (gSub (tVar j) (tD X.K W g) rSetL))) : PS X st (tDS X.K W (dHas j (dSetI j g f))) := by
  refine PS.to h ?_
  rintro D σ H ⟨F, e, R, h⟩
  have h0 : ∃ xs, ownAt e j = some xs ∧ SGo X.K W (dSetI j g f e) σ e F H D := by
    unfold dHas at h
    cases q : ownAt e j with
    | none => rw [q] at h; exact h.elim
    | some xs => rw [q] at h; exact ⟨xs, rfl, h⟩
  obtain ⟨xs0, q0, h⟩ := h0
  obtain ⟨p, _, hp, _⟩ := own_at R q0
  refine ⟨F, e, R, Go.imp (SGo.bndE (r := esR (f e)) h) ?_⟩
  rintro v H1 ⟨F1, e1, w1, R1, S1, V1, N1, h1⟩
  refine ⟨.ref p, hp, F1, e1, R1, Go.imp (SGo.bndE (SGo.later S1 h1)) ?_⟩
  rintro vk H2 ⟨F2, e2, wk, R2, S2, V2, N2, h2⟩
  obtain ⟨e3, q, hz⟩ := h2.opt
  obtain ⟨y, q1, q⟩ := Option.bind_eq_some_iff.mp q
  obtain ⟨kk, q2, q⟩ := Option.bind_eq_some_iff.mp q
  have ew : w1 = .d y := by
    cases w1 with
    | d z => cases q1; rfl
    | _ => cases q1
  subst ew
  cases kk with
  | int k =>
    obtain ⟨xs, q3, q⟩ := Option.bind_eq_some_iff.mp q
    obtain ⟨n, q4, q⟩ := Option.bind_eq_some_iff.mp q
    obtain ⟨p', us, a1, a2, a3, a4, _, _⟩ := own_at R2 q3
    rw [hp] at a1
    cases a1
    have ek := dh_int (rs_dh R2 V2 q2)
    subst ek
    refine ⟨p, us, k, n, rfl, rfl, a3, by rw [dpa_len a4]; exact q4, ?_⟩
    obtain ⟨R3, S3⟩ := upo_ok R2 hp q a2 (dpa_set n a4 (dp_ex S2.sub _ _ V1)) (by rw [a3]; exact fun z => nomatch z)
    exact hz σ _ F2 R3 (S2.tr S3)
  | _ => cases q
/-- raise C("..") -/
def dRaise (c : Str) : DS := fun e => .err c e
end
end Vf
/-! Loops, comprehensions. -/
namespace Vf
open PySem PySem.Spec L2
open PyProof.Rows hiding St
/-! ### what is walked: a list or a tuple -/
def iSeq (K : PySem.W.Frag) (tl : TE) : TI := fun σ H R => tl σ H fun x H1 => ∃ a, x = V.ref a ∧ (((∃ xs, SqL K H1 a xs) ∧ R (Itl K a) H1) ∨ ((∃ xs, SqT K H1 a xs) ∧ R (Itt K a) H1))
theorem pi_seq {X : Cx} {tg l : Expr} {tl : TE} (hl : PE X l tl) : PI X tg l (iSeq X.K tl) := by
  constructor
  intro pins s σ H R I h
  refine thn (hl.run pins s σ H _ I h) ?_
  rintro v s1 ⟨x, H1, I1, r1, a, rfl, q⟩
  cases r1
  have fresh : FpOk X pins H1 s1.heap.objs.size := I1.fpOk (Nat.le_refl _) (I1.hok.fresh (Nat.le_refl _))
  have all : ∀ b ∈ [s1.heap.objs.size], FpOk X pins H1 b := fun b hb => by
    rw [List.mem_singleton.mp hb]; exact fresh
  rcases q with ⟨⟨xs, hq⟩, q⟩ | ⟨⟨xs, hq⟩, q⟩
  · obtain ⟨its, rv, p, hz⟩ := I1.list hq
    refine wpAny_pyIter_list p.isList ?_
    exact ⟨_, [s1.heap.objs.size], _, _, H1, rfl, I1.kept (t' := s1.toks) (fun b o e => Heap.get?_push_of_some _ e),
      turn_list a _, ⟨_, Heap.get?_push_size _ rfl, rfl, rfl⟩, all, q⟩
  · obtain ⟨its, rv, p, hz⟩ := I1.tuple hq
    refine wpAny_pyIter_tuple (show s1.heap.IsTuple a its.toArray from p) ?_
    exact ⟨_, [s1.heap.objs.size], _, _, H1, rfl, I1.kept (t' := s1.toks) (fun b o e => Heap.get?_push_of_some _ e),
      turn_tuple a _, ⟨_, Heap.get?_push_size _ rfl, rfl, rfl⟩, all, q⟩
def items : PyData → Option (List PyData)
  | .list xs => some xs
  | .tuple xs => some xs
  | _ => none
def loopS (o : Out) (k : En → Out) : Out := match o with
  | .nx e => k e
  | .ct e => k e
  | .bk e => .nx e
  | .rt w e => .rt w e
  | .err c e => .err c e
  | .bad => .bad
def outO (o : Option En) (k : En → Out) : Out := match o with
  | some e => k e
  | none => .bad
def forGo (tg : PyData → En → Option En) (s : DS) : List PyData → En → Out
  | [], e => .nx e
  | x :: xs, e => outO (tg x e) fun e1 => loopS (s e1) (forGo tg s xs)
def outL (o : Option (List PyData)) (k : List PyData → Out) : Out := match o with
  | some e => k e
  | none => .bad
def dFor (src : DE) (tg : PyData → En → Option En) (s : DS) : DS := fun e => bndE (esR (src e)) fun w e1 => outL ((dat1 w).bind items) fun xs => forGo tg s xs e1
section
variable {K : PySem.W.Frag} {F H F' H' : Hp} {σ σ' : St} {e e' : En} {v : V} {w : Wv} {W : WX}
theorem SGo.loopS {o : Out} {k : En → Out} {D : Ends} (h : SGo K W (loopS o k) σ e F H D) :
    SGo K W o σ e F H { nx := fun σ1 H1 => ∃ F1 e1, Rel K F1 H1 σ1 e1 ∧ Stp σ e F H σ1 e1 F1 H1 ∧ SGo K W (k e1) σ e F H D, ct := fun σ1 H1 => ∃ F1 e1, Rel K F1 H1 σ1 e1 ∧ Stp σ e F H σ1 e1 F1 H1 ∧ SGo K W (k e1) σ e F H D, bk := D.nx, rt := D.rt } := by
  cases o with
  | nx e1 => exact fun σ1 H1 F1 R S => ⟨F1, e1, R, S, h⟩
  | ct e1 => exact fun σ1 H1 F1 R S => ⟨F1, e1, R, S, h⟩
  | bk e1 => exact h
  | rt w e' => exact h
  | err c e1 => exact h
  | bad => exact h
theorem SGo.outO {o : Option En} {k : En → Out} {D : Ends} (h : SGo K W (outO o k) σ e F H D) : ∃ e1, o = some e1 ∧ SGo K W (k e1) σ e F H D := by
  cases o with
  | none => exact h.elim
  | some z => exact ⟨z, rfl, h⟩
theorem SGo.outL {o : Option (List PyData)} {k : List PyData → Out} {D : Ends} (h : SGo K W (outL o k) σ e F H D) : ∃ e1, o = some e1 ∧ SGo K W (k e1) σ e F H D := by
  cases o with
  | none => exact h.elim
  | some z => exact ⟨z, rfl, h⟩
/-- at a turn of a loop: what is still to be done -/
def Lp (K : PySem.W.Frag) (W : WX) (σ : St) (e : En) (F H : Hp) (D : Ends) (k : En → Out) (σ' : St) (H' : Hp) : Prop := ∃ F' e', Rel K F' H' σ' e' ∧ Stp σ e F H σ' e' F' H' ∧ SGo K W (k e') σ e F H D
theorem lp_turn {js : List Nat} {g : TG} {tg : PyData → En → Option En} {s : DS} {D : Ends} (T : TgOk K js g tg) {x : PyData} {xs : List PyData} {σ1 : St} {H1 : Hp} {v : V} (d : ∀ F1 : Hp, Ex F F1 → Dp K F1 v x) (p : Lp K W σ e F H D (forGo tg s (x :: xs)) σ1 H1) :
    g v σ1 H1 fun σ2 H2 => tDS K W s { D with nx := Lp K W σ e F H D (forGo tg s xs), ct := Lp K W σ e F H D (forGo tg s xs), bk := D.nx } σ2 H2 := by
  obtain ⟨F1, e1, R1, S1, h⟩ := p
  obtain ⟨e2, q, h⟩ := SGo.outO (k := fun e1 => Vf.loopS (s e1) (forGo tg s xs)) h
  refine T.go F1 H1 σ1 e1 v x e2 _ R1 (d F1 S1.sub) q fun σ2 R2 S2 _ _ => ⟨F1, e2, R2, ?_⟩
  refine SGo.later (S1.tr S2) (SGo.imp h.loopS (fun _ _ z => z) (fun _ _ z => z) (fun _ _ z => z) (fun _ _ z => z))
end
section
variable {X : Cx} {W : WX} {tg iter : Expr} {body : List Stmt} {f : DE} {g : TG} {tgf : PyData → En → Option En} {s : DS} {js : List Nat} {pos : Pos}
theorem ps_d_for (hp : PassesOwn (model X.prog X.w) X.A X.env X.xe) (hc : X.calm = true) (hi : PE X iter (tD X.K W (dEs f))) (hg : PG X tg g) (T : TgOk X.K js g tgf) (hb : PSs X body (tDS X.K W s))
    (hs : ∀ x, foldedSetIterable iter X.env x = pure x := by intro _; rfl) : PS X (.For tg iter body [] pos) (tDS X.K W (dFor f tgf s)) := by
  refine PS.to (ps_for hp hc (pi_seq hi) hg hb hs) ?_
  rintro D σ H ⟨F, e, R, h⟩
  refine ⟨F, e, R, Go.imp (SGo.bndE (r := esR (f e)) h) ?_⟩
  rintro v H1 ⟨F1, e1, w1, R1, S1, V1, N1, h1⟩
  obtain ⟨xs, q, h2⟩ := h1.outL
  obtain ⟨x, q1, q⟩ := Option.bind_eq_some_iff.mp q
  have ew : w1 = .d x := by
    cases w1 with
    | d y => cases q1; rfl
    | _ => cases q1
  subst ew
  have V1 : Dp X.K F1 v x := V1
  have h3 := SGo.later S1 h2
  have done : ∀ σ' H', Lp X.K W σ e1 F1 H1 D (forGo tgf s []) σ' H' → D.nx σ' H' := fun σ' H' ⟨F', e', R', S', h'⟩ => h' σ' H' F' R' S'
  have start : Lp X.K W σ e1 F1 H1 D (forGo tgf s xs) σ H1 := ⟨F1, e1, R1, Stp.rfl', h3⟩
  have next : ∀ {vs : List V} {i : Nat} {y : V}, DpAll X.K F1 vs xs → vs[i]? = some y → ∃ z, xs.drop i = z :: xs.drop (i + 1) ∧ Dp X.K F1 y z := by
    intro vs i y da hy
    obtain ⟨z, hz, dz⟩ := dpa_get da hy
    refine ⟨z, ?_, dz⟩
    have hl := (List.getElem?_eq_some_iff.mp hz).1
    rw [List.drop_eq_getElem_cons hl]
    congr 1
    exact (List.getElem?_eq_some_iff.mp hz).2
  cases x with
  | list ys =>
    cases q
    obtain ⟨a, vs, rfl, hs', da⟩ := dp_list_ref V1
    refine ⟨a, rfl, .inl ⟨⟨vs, sql_ex R1.ex hs'⟩, ?_⟩⟩
    refine for_list (xs := vs) (fun i σ' H' => Lp X.K W σ e1 F1 H1 D (forGo tgf s (xs.drop i)) σ' H') start (fun i σ' H' _ ⟨F', e', R', S', _⟩ => sql_ex (S'.sub.tr R'.ex) hs') (fun i y σ' H' hy p => ?_) (fun σ' H' p => ?_)
    · obtain ⟨z, ez, dz⟩ := next da hy
      rw [ez] at p
      exact lp_turn T (fun F2 x2 => dp_ex x2 _ _ dz) p
    · rw [dpa_len da, List.drop_length] at p
      exact done σ' H' p
  | tuple ys =>
    cases q
    obtain ⟨a, vs, rfl, hs', da⟩ := dp_tup_ref V1
    refine ⟨a, rfl, .inr ⟨⟨vs, sqt_ex R1.ex hs'⟩, ?_⟩⟩
    refine for_tup (xs := vs) (fun i σ' H' => Lp X.K W σ e1 F1 H1 D (forGo tgf s (xs.drop i)) σ' H') start (fun i σ' H' _ ⟨F', e', R', S', _⟩ => sqt_ex (S'.sub.tr R'.ex) hs') (fun i y σ' H' hy p => ?_) (fun σ' H' p => ?_)
    · obtain ⟨z, ez, dz⟩ := next da hy
      rw [ez] at p
      exact lp_turn T (fun F2 x2 => dp_ex x2 _ _ dz) p
    · rw [dpa_len da, List.drop_length] at p
      exact done σ' H' p
  | _ => cases q
/-! ### over a range -/
def rngD (lo : Int) : Nat → List PyData
  | 0 => []
  | n + 1 => .int lo :: rngD (lo + 1) n
theorem rngD_drop (lo : Int) : ∀ (n i : Nat), i < n → (rngD lo n).drop i = .int (lo + (i : Int)) :: (rngD lo n).drop (i + 1)
  | 0, _, h => absurd h (Nat.not_lt_zero _)
  | n + 1, 0, _ => by
    show PyData.int lo :: rngD (lo + 1) n = .int (lo + ((0 : Nat) : Int)) :: rngD (lo + 1) n
    rw [show lo + ((0 : Nat) : Int) = lo by omega]
  | n + 1, i + 1, h => by
    show (rngD (lo + 1) n).drop i = .int (lo + ((i + 1 : Nat) : Int)) :: (rngD (lo + 1) n).drop (i + 1)
    rw [rngD_drop (lo + 1) n i (by omega), show lo + 1 + (i : Int) = lo + ((i + 1 : Nat) : Int) by omega]
theorem rngD_len (lo : Int) : ∀ n, (rngD lo n).length = n
  | 0 => rfl
  | n + 1 => by rw [rngD, List.length_cons, rngD_len]
def rngOf (xs : List PyData) : Option (Int × Nat) := match xs with
  | [.int j] => if -(2 ^ 62) ≤ j ∧ j < 2 ^ 62 then some (0, j.toNat) else none
  | [.int i, .int j] => if (-(2 ^ 62) ≤ i ∧ i < 2 ^ 62) ∧ -(2 ^ 62) ≤ j ∧ j < 2 ^ 62 then some (i, (j - i).toNat) else none
  | _ => none
def outR (o : Option (Int × Nat)) (k : List PyData → Out) : Out := match o with
  | some p => k (rngD p.1 p.2)
  | none => .bad
def bndLS (r : RsL) (k : List Wv → En → Out) : Out := match r with
  | .ok ws e => k ws e
  | .err c e => .err c e
  | .bad => .bad
def dForR (fs : List DE) (tg : PyData → En → Option En) (s : DS) : DS := fun e => bndLS (evs fs e) fun ws e1 => outR ((rss e1 ws).bind rngOf) fun xs => forGo tg s xs e1
/-- a range's reading, whichever of its two forms -/
inductive RngI : TI → TA → Prop
  | one (t : TA) : RngI (iRng1 t) t
  | two (t : TA) : RngI (iRng2 t) t
theorem dhs_ints {K : PySem.W.Frag} {F H : Hp} {vs : List V} {ns : List Int} (h : DHs K F H vs (ns.map PyData.int)) : vs = ns.map V.int := by
  induction ns generalizing vs with
  | nil => cases h; rfl
  | cons n r ih =>
    cases h with
    | cons a b => rw [dh_int a, ih b]; rfl
theorem ps_d_forR {wi : TI} {fs : List DE} (rk : (wi = iRng1 (tDA X.K W fs) ∧ fs.length = 1) ∨ (wi = iRng2 (tDA X.K W fs) ∧ fs.length = 2)) (hp : PassesOwn (model X.prog X.w) X.A X.env X.xe) (hc : X.calm = true) (hi : PI X tg iter wi) (hg : PG X tg g) (T : TgOk X.K js g tgf) (hb : PSs X body (tDS X.K W s))
    (hs : ∀ x, foldedSetIterable iter X.env x = pure x := by intro _; rfl) : PS X (.For tg iter body [] pos) (tDS X.K W (dForR fs tgf s)) := by
  refine PS.to (ps_for hp hc hi hg hb hs) ?_
  rintro D σ H ⟨F, e, R, h⟩
  have h : SGo X.K W (bndLS (evs fs e) fun ws e1 => outR ((rss e1 ws).bind rngOf) fun xs => forGo tgf s xs e1) σ e F H D := h
  have run : ∀ (lo : Int) (n : Nat) (e1 : En) (F1 H1 : Hp), Rel X.K F1 H1 σ e1 → Stp σ e F H σ e1 F1 H1 → SGo X.K W (forGo tgf s (rngD lo n) e1) σ e F H D →
      ∃ W' : Nat → Nat → St → Hp → Prop, (∃ m, W' 0 m σ H1) ∧ ∀ i m σ H, W' i m σ H →
        ((Itr lo n).stop i H ∧ D.nx σ H) ∨ ((Itr lo n).go i H ∧ ∃ N : St → Hp → Prop, (∀ σ' H', N σ' H' → ∃ m', m' < m ∧ W' (i + 1) m' σ' H') ∧ ∀ x H', (Itr lo n).yld i H x H' → g x σ H' fun σ2 H2 => tDS X.K W s { D with nx := N, ct := N, bk := D.nx } σ2 H2) := by
    intro lo n e1 F1 H1 R1 S1 h1
    refine for_range (fun i σ' H' => Lp X.K W σ e1 F1 H1 D (forGo tgf s ((rngD lo n).drop i)) σ' H') ⟨F1, e1, R1, Stp.rfl', SGo.later S1 h1⟩ (fun i σ' H' hi p => ?_) (fun σ' H' p => ?_)
    · rw [rngD_drop lo n i hi] at p
      exact lp_turn T (fun F2 _ => .int _) p
    · have z : (rngD lo n).drop n = [] := by
        have := List.drop_length (l := rngD lo n)
        rwa [rngD_len] at this
      obtain ⟨F', e', R', S', h'⟩ := p
      rw [z] at h'
      exact h' σ' H' F' R' S'
  have go : GoL X.K W (evs fs e) σ e F H fun vs H1 => ∃ xs F1 e1 lo n, DHs X.K F1 H1 vs xs ∧ rngOf xs = some (lo, n) ∧ xs.length = fs.length ∧ Rel X.K F1 H1 σ e1 ∧ Stp σ e F H σ e1 F1 H1 ∧ SGo X.K W (forGo tgf s (rngD lo n) e1) σ e F H D := by
    have len : ∀ (fs : List DE) (e : En) (ws : List Wv) (e1 : En), evs fs e = .ok ws e1 → ws.length = fs.length := by
      intro fs
      induction fs with
      | nil => intro e ws e1 h; cases h; rfl
      | cons f fs ih =>
        intro e ws e1 h
        have h : bndC (f e) (fun w e1 => consR w (evs fs e1)) = .ok ws e1 := h
        cases q : f e with
        | bad => rw [q] at h; cases h
        | err c e2 => rw [q] at h; cases h
        | ok w e2 =>
          rw [q] at h
          have h : consR w (evs fs e2) = .ok ws e1 := h
          cases q2 : evs fs e2 with
          | bad => rw [q2] at h; cases h
          | err c e3 => rw [q2] at h; cases h
          | ok ws' e3 =>
            rw [q2] at h
            cases h
            rw [List.length_cons, List.length_cons, ih e2 ws' _ q2]
    have rl : ∀ (e1 : En) (ws : List Wv) (xs : List PyData), rss e1 ws = some xs → xs.length = ws.length := by
      intro e1 ws
      induction ws with
      | nil => intro xs h; cases h; rfl
      | cons w ws ih =>
        intro xs h
        obtain ⟨x, _, h⟩ := Option.bind_eq_some_iff.mp h
        obtain ⟨ys, q, h⟩ := Option.bind_eq_some_iff.mp h
        cases h
        rw [List.length_cons, List.length_cons, ih ys q]
    cases q : evs fs e with
    | bad => rw [q] at h; exact h
    | err c e1 => rw [q] at h; exact fun H' F' a b => h σ H' F' a b
    | ok ws e1 =>
      rw [q] at h
      have h : SGo X.K W (outR ((rss e1 ws).bind rngOf) fun xs => forGo tgf s xs e1) σ e F H D := h
      intro vs H1 F1 R1 S1 V1 N1
      cases q2 : (rss e1 ws).bind rngOf with
      | none => rw [q2] at h; exact h.elim
      | some p =>
        obtain ⟨lo, n⟩ := p
        rw [q2] at h
        obtain ⟨xs, q3, q4⟩ := Option.bind_eq_some_iff.mp q2
        exact ⟨xs, F1, e1, lo, n, rss_dh R1 V1 q3, q4, by rw [rl _ _ _ q3, len _ _ _ _ q], R1, S1, h⟩
  rcases rk with ⟨rfl, hl⟩ | ⟨rfl, hl⟩
  · refine ⟨F, e, R, go.imp ?_⟩
    rintro vs H1 ⟨xs, F1, e1, lo, n, dv, q, hx, R1, S1, h1⟩
    rw [hl] at hx
    unfold rngOf at q
    split at q
    · rename_i j
      split at q
      · rename_i hb
        cases q
        cases dv with
        | cons a b =>
          cases b
          exact ⟨j, by rw [dh_int a], hb.1, hb.2, run 0 j.toNat e1 F1 H1 R1 S1 h1⟩
      · cases q
    · simp at hx
    · cases q
  · refine ⟨F, e, R, go.imp ?_⟩
    rintro vs H1 ⟨xs, F1, e1, lo, n, dv, q, hx, R1, S1, h1⟩
    rw [hl] at hx
    unfold rngOf at q
    split at q
    · simp at hx
    · rename_i i j
      split at q
      · rename_i hb
        cases q
        cases dv with
        | cons a b =>
          cases b with
          | cons a2 b2 =>
            cases b2
            exact ⟨lo, j, by rw [dh_int a, dh_int a2], ⟨hb.1.1, hb.1.2, hb.2.1, hb.2.2⟩, run lo _ e1 F1 H1 R1 S1 h1⟩
      · cases q
    · cases q
end
end Vf
/-! Comprehensions. -/
namespace Vf
open PySem PySem.Spec L2
open PyProof.Rows hiding St
/-- the slots of a comprehension's own names, forgotten -/
def wpE (e : En) : List Nat → En
  | [] => e
  | v :: vs => (wpE e vs).set v none
/-- .. as they were ahead of it -/
def rst (e1 e : En) : List Nat → En
  | [] => e
  | v :: vs => (rst e1 e vs).set v (e1.getD v none)
def noOwn (e : En) (vs : List Nat) : Bool := vs.all fun i => notOwn e[i]?
section
variable {K : PySem.W.Frag} {F H F' H' : Hp} {σ σ' : St} {e e' e1 : En} {v : V} {w : Wv} {W : WX} {vs : List Nat}
theorem wpE_len : ∀ vs : List Nat, (wpE e vs).length = e.length
  | [] => rfl
  | v :: vs => by unfold wpE; rw [List.length_set, wpE_len vs]
theorem wpE_out {i : Nat} : ∀ {vs : List Nat}, i ∉ vs → (wpE e vs)[i]? = e[i]?
  | [], _ => rfl
  | v :: vs, h => by
    unfold wpE
    rw [List.getElem?_set_ne fun z => h (by rw [z]; exact List.mem_cons_self)]
    exact wpE_out fun z => h (List.mem_cons_of_mem _ z)
theorem wpE_in {i : Nat} {w : Wv} : ∀ {vs : List Nat}, (wpE e vs)[i]? = some (some w) → i ∉ vs
  | [], _ => by simp
  | v :: vs, h => by
    unfold wpE at h
    rcases getSet h with ⟨_, q⟩ | ⟨n, q⟩
    · cases q
    · intro z
      rcases List.mem_cons.mp z with z | z
      · exact n z
      · exact wpE_in q z
theorem rst_len : ∀ vs : List Nat, (rst e1 e vs).length = e.length
  | [] => rfl
  | v :: vs => by unfold rst; rw [List.length_set, rst_len vs]
theorem rst_out {i : Nat} : ∀ {vs : List Nat}, i ∉ vs → (rst e1 e vs)[i]? = e[i]?
  | [], _ => rfl
  | v :: vs, h => by
    unfold rst
    rw [List.getElem?_set_ne fun z => h (by rw [z]; exact List.mem_cons_self)]
    exact rst_out fun z => h (List.mem_cons_of_mem _ z)
theorem rst_in {i : Nat} {w : Wv} : ∀ {vs : List Nat}, i ∈ vs → (rst e1 e vs)[i]? = some (some w) → e1[i]? = some (some w)
  | v :: vs, hm, h => by
    unfold rst at h
    rcases getSet h with ⟨z, q⟩ | ⟨n, q⟩
    · subst z
      rw [List.getD_eq_getElem?_getD] at q
      cases z : e1[i]? with
      | none => rw [z] at q; cases q
      | some o => rw [z] at q; exact congrArg some q.symm
    · rcases List.mem_cons.mp hm with z | z
      · exact absurd z n
      · exact rst_in z q
theorem isOwn_some {o : Option (Option Wv)} (h : isOwn o) : ∃ w, o = some (some w) := by
  match o, h with
  | some (some w), _ => exact ⟨w, rfl⟩
theorem noOwn_at {i : Nat} (h : noOwn e vs = true) (hi : i ∈ vs) : ¬ isOwn e[i]? := fun o => by
  have q : notOwn e[i]? = true := List.all_eq_true.mp h i hi
  obtain ⟨w, z⟩ := isOwn_some o
  rw [z] at q o
  cases w with
  | own _ => cases q
  | brw _ => cases q
  | ot _ => cases q
  | bt _ => cases q
  | fo _ => cases q
  | _ => exact o
theorem adr_no {w : Wv} (h : ¬ isOwn (some (some w))) : adr H v w = [] := by
  cases w with
  | own _ => exact absurd trivial h
  | brw _ => exact absurd trivial h
  | ot _ => exact absurd trivial h
  | bt _ => exact absurd trivial h
  | fo _ => exact absurd trivial h
  | _ => rfl
theorem wp_ow {i : Nat} {a : Addr} (h : Ow H (wipe σ vs) (wpE e vs) i a) : i ∉ vs ∧ Ow H σ e i a := by
  obtain ⟨v, w, h1, h2, h3⟩ := h
  have n := wpE_in h1
  rw [wpE_out n] at h1
  rw [wipe_out n] at h2
  exact ⟨n, v, w, h1, h2, h3⟩
theorem ow_wp {i : Nat} {a : Addr} (n : i ∉ vs) (h : Ow H σ e i a) : Ow H (wipe σ vs) (wpE e vs) i a := by
  obtain ⟨v, w, h1, h2, h3⟩ := h
  exact ⟨v, w, by rw [wpE_out n]; exact h1, by rw [wipe_out n]; exact h2, h3⟩
theorem rel_wipe (R : Rel K F H σ e) : Rel K F H (wipe σ vs) (wpE e vs) where
  ex := R.ex
  len := by rw [wipe_length, wpE_len]; exact R.len
  at_ := fun i w q => by
    have n := wpE_in q
    rw [wpE_out n] at q
    obtain ⟨v, e1, r⟩ := R.at_ i w q
    exact ⟨v, by rw [wipe_out n]; exact e1, r⟩
  sep := fun i j p oi oj => R.sep i j p (wp_ow oi).2 (wp_ow oj).2
theorem wp_owned {a : Addr} (h : Owned H (wipe σ vs) (wpE e vs) a) : Owned H σ e a := by
  obtain ⟨i, o⟩ := h
  exact ⟨i, (wp_ow o).2⟩
theorem stp_wipe {σ0 : St} {e0 : En} {F0 H0 : Hp} (S : Stp σ0 e0 F0 H0 σ e F H) (h : ∀ (i : Nat), isBrw e0[i]? → i ∉ vs) : Stp σ0 e0 F0 H0 (wipe σ vs) (wpE e vs) F H where
  sub := S.sub
  keep := S.keep
  shr := fun a q => S.shr a (wp_owned q)
  grow := S.grow
  pin := fun i xs q => by
    obtain ⟨h1, ys, h2⟩ := S.pin i xs q
    have n := h i (by rw [q]; trivial)
    exact ⟨by rw [wipe_out n]; exact h1, ys, by rw [wpE_out n]; exact h2⟩
  pin2 := fun i xs q => by
    obtain ⟨h1, ys, h2⟩ := S.pin2 i xs q
    have n := h i (by rw [q]; trivial)
    exact ⟨by rw [wipe_out n]; exact h1, ys, by rw [wpE_out n]; exact h2⟩
  there := S.there
theorem brw_wp {i : Nat} (h : isBrw (wpE e vs)[i]?) : i ∉ vs := by
  cases q : (wpE e vs)[i]? with
  | none => rw [q] at h; exact h.elim
  | some o =>
    cases o with
    | none => rw [q] at h; exact h.elim
    | some w => exact wpE_in q
theorem rel_back {FN HN : Hp} {eN : En} {F1 H1 : Hp} (R1 : Rel K F1 H1 σ e1) (no : noOwn e1 vs = true) (S : Stp (wipe σ vs) (wpE e1 vs) F1 H1 (wipe σ vs) eN FN HN) (R : Rel K FN HN (wipe σ vs) eN) :
    Rel K FN HN σ (rst e1 eN vs) ∧ Stp σ e1 F1 H1 σ (rst e1 eN vs) FN HN ∧ ∀ i a, Ow HN σ (rst e1 eN vs) i a → Ow HN (wipe σ vs) eN i a := by
  have ow : ∀ i a, Ow HN σ (rst e1 eN vs) i a → i ∉ vs ∧ Ow HN (wipe σ vs) eN i a := by
    rintro i a ⟨v, w, h1, h2, h3⟩
    by_cases hi : i ∈ vs
    · have q := rst_in hi h1
      have z := noOwn_at no hi
      rw [q] at z
      rw [adr_no z] at h3
      cases h3
    · rw [rst_out hi] at h1
      exact ⟨hi, v, w, h1, by rw [wipe_out hi]; exact h2, h3⟩
  have lo : σ.length = (wipe σ vs).length := (wipe_length σ vs).symm
  have own : ∀ {i : Nat} {w : Wv}, e1[i]? = some (some w) → isOwn (some (some w)) → i ∉ vs := fun {i w} q o z => noOwn_at no z (by rw [q]; exact o)
  refine ⟨⟨R.ex, by rw [rst_len, ← R.len, lo], fun i w q => ?_, fun i j p oi oj => R.sep i j p (ow i p oi).2 (ow j p oj).2⟩, ⟨S.sub, fun a o h n => S.keep a o h fun q => n (wp_owned q), fun a q => ?_, fun a q => ?_, fun i xs q => ⟨rfl, ?_⟩, fun i xs q => ⟨rfl, ?_⟩, S.there⟩, fun i a h => (ow i a h).2⟩
  · by_cases hi : i ∈ vs
    · have q1 := rst_in hi q
      obtain ⟨v, e2, r⟩ := R1.at_ i w q1
      refine ⟨v, e2, (rv_up R1.ex S.sub R.ex r fun a ha => ?_).1⟩
      have z := noOwn_at no hi
      rw [q1] at z
      rw [adr_no z] at ha
      cases ha
    · rw [rst_out hi] at q
      obtain ⟨v, e2, r⟩ := R.at_ i w q
      exact ⟨v, (wipe_some e2).1, r⟩
  · obtain ⟨i, q⟩ := q
    rcases S.shr a ⟨i, (ow i a q).2⟩ with z | z
    · exact .inl (wp_owned z)
    · exact .inr z
  · rcases S.grow a q with z | z | z
    · exact .inl z
    · exact .inr (.inl (wp_owned z))
    · exact .inr (.inr z)
  · have n : i ∉ vs := own q trivial
    obtain ⟨_, ys, h2⟩ := S.pin i xs (by rw [wpE_out n]; exact q)
    exact ⟨ys, by rw [rst_out n]; exact h2⟩
  · have n : i ∉ vs := own q trivial
    obtain ⟨_, ys, h2⟩ := S.pin2 i xs (by rw [wpE_out n]; exact q)
    exact ⟨ys, by rw [rst_out n]; exact h2⟩
/-- a thing that is nobody's, new since the beginning, is changed -/
theorem acc_chg {σ0 : St} {e0 : En} {F0 H0 : Hp} {D : Addr} {o : HO} (R : Rel K F H σ e) (S : Stp σ0 e0 F0 H0 σ e F H) (hD : H0 D = none) (fD : F D = none) (n : ¬ Owned H σ e D) :
    Rel K F (upd H D o) σ e ∧ Stp σ0 e0 F0 H0 σ e F (upd H D o) ∧ ¬ Owned (upd H D o) σ e D := by
  have x1 : Ex F (upd H D o) := fun a u z => by
    rw [upd_ne (ne_of_none z fD)]; exact R.ex a u z
  have f : ∀ p u, F p = none → H p = some u → Owned H σ e p → F p = none ∧ upd H D o p = some u := fun p u g1 g2 go => by
    have np : p ≠ D := fun z => n (by rw [← z]; exact go)
    rw [upd_ne np]
    exact ⟨g1, g2⟩
  have ow : ∀ {a}, Owned (upd H D o) σ e a ↔ Owned H σ e a := fun {a} => owned_up R (Ex.rfl' F) x1 f
  refine ⟨rel_up R (Ex.rfl' F) x1 f, ⟨S.sub, fun a u z m => ?_, fun a z => S.shr a (ow.mp z), S.grow, S.pin, S.pin2, fun a z => ?_⟩, fun z => n (ow.mp z)⟩
  · rw [upd_ne (ne_of_none z hD)]; exact S.keep a u z m
  · by_cases ha : a = D
    · rw [ha, upd_same]; exact fun z => nomatch z
    · rw [upd_ne ha]; exact S.there a z
/-! ### the block, item by item -/
def okR : Rs → Option (Wv × En)
  | .ok w e => some (w, e)
  | _ => none
def lcGo (vs : List Nat) (tg : PyData → En → Option En) (t el : DE) : List PyData → En → List PyData → Option (List PyData × En)
  | [], e, acc => some (acc, e)
  | x :: xs, e, acc => (tg x e).bind fun e1 => (okR (t e1)).bind fun p => (isB (rs p.2 p.1)).bind fun b =>
      bif b then (okR (esR (el p.2))).bind fun q => (dat1 q.1).bind fun y => if acc.length ≤ 1000000 then lcGo vs tg t el xs (wpE q.2 vs) (acc ++ [y]) else none
      else lcGo vs tg t el xs (wpE p.2 vs) acc
def outC (o : Option (List PyData × En)) (e1 : En) (vs : List Nat) : Rs := match o with
  | some p => .ok (.own p.1) (rst e1 p.2 vs)
  | none => .bad
def dLc (src : DE) (vs : List Nat) (tg : PyData → En → Option En) (t el : DE) : DE := fun e => bnd (esR (src e)) fun w e1 =>
  outC (bif noOwn e1 vs then (dat1 w).bind fun x => (items x).bind fun xs => lcGo vs tg t el xs (wpE e1 vs) [] else none) e1 vs
abbrev WF : WX := fun _ _ _ _ => False
/-- at a turn -/
def Cp (K : PySem.W.Frag) (vs : List Nat) (σ : St) (e1 : En) (F1 H1 : Hp) (D : Addr) (r : List PyData × En) (k : En → List PyData → Option (List PyData × En)) (H' : Hp) : Prop :=
  ∃ F' e' acc vacc, Rel K F' H' (wipe σ vs) e' ∧ Stp (wipe σ vs) (wpE e1 vs) F1 H1 (wipe σ vs) e' F' H' ∧ H' D = some (.lst vacc) ∧ F' D = none ∧ ¬ Owned H' (wipe σ vs) e' D ∧ DpAll K F' vacc acc ∧ k e' acc = some r
theorem wipe_eq {σ2 : St} {js : List Nat} (hl : σ2.length = (wipe σ vs).length) (hj : ∀ j ∈ js, j ∈ vs) (h : ∀ i, i ∉ js → σ2[i]? = (wipe σ vs)[i]?) : wipe σ2 vs = wipe σ vs := by
  apply List.ext_getElem?
  intro i
  by_cases hi : i ∈ vs
  · have g : ∀ (τ : St), i < τ.length → (wipe τ vs)[i]? = some none := fun τ hl => by
      cases q : (wipe τ vs)[i]? with
      | none =>
        rw [List.getElem?_eq_none_iff, wipe_length] at q
        omega
      | some o =>
        cases o with
        | none => rfl
        | some x => exact absurd hi (wipe_some q).2
    by_cases hlt : i < σ.length
    · rw [g σ hlt, g σ2 (by rw [hl, wipe_length]; exact hlt)]
    · rw [List.getElem?_eq_none (by rw [wipe_length, hl, wipe_length]; omega), List.getElem?_eq_none (by rw [wipe_length]; omega)]
  · rw [wipe_out hi, h i fun z => hi (hj i z)]
theorem okR_some {r : Rs} {p : Wv × En} (h : okR r = some p) : r = .ok p.1 p.2 := by
  cases r with
  | ok w e => cases h; rfl
  | _ => cases h
theorem cp_turn {js : List Nat} {g : TG} {tg : PyData → En → Option En} {t el : DE} {tt : TT} {F1 H1 : Hp} {D : Addr} {r : List PyData × En} {Hc : Hp} {x : PyData} {xs : List PyData}
    (T : TgOk K js g tg) (hj : ∀ j ∈ js, j ∈ vs) (ht : ∀ σ H Q, tDT K WF t σ H Q → tt σ H Q) (hD : H1 D = none) (d : ∀ F2 : Hp, Ex F1 F2 → Dp K F2 v x)
    (p : Cp K vs σ e1 F1 H1 D r (lcGo vs tg t el (x :: xs)) Hc) :
    g v (wipe σ vs) Hc fun σ2 H2 => wipe σ2 vs = wipe σ vs ∧ tt σ2 H2 fun b H3 =>
      if b = true then tD K WF (dEs el) σ2 H3 fun y H4 => ∃ acc, H4 D = some (.lst acc) ∧ acc.length < sizeLine ∧ Cp K vs σ e1 F1 H1 D r (lcGo vs tg t el xs) (upd H4 D (.lst (acc ++ [y])))
      else Cp K vs σ e1 F1 H1 D r (lcGo vs tg t el xs) H3 := by
  obtain ⟨F', e', acc, vacc, R, S, a1, a2, a3, a4, h⟩ := p
  obtain ⟨e2, q1, h⟩ := Option.bind_eq_some_iff.mp h
  obtain ⟨⟨w3, e3⟩, q2, h⟩ := Option.bind_eq_some_iff.mp h
  obtain ⟨b, q3, h⟩ := Option.bind_eq_some_iff.mp h
  refine T.go F' Hc _ e' v x e2 _ R (d F' S.sub) q1 fun σ2 R2 S2 hl hi => ⟨wipe_eq hl hj hi, ht _ _ _ ⟨F', e2, R2, ?_⟩⟩
  rw [okR_some q2]
  refine ⟨b, isB_some q3, fun H3 F3 R3 S3 => ?_⟩
  have S13 := (S.tr S2).tr S3
  have nb : ∀ (i : Nat), isBrw (wpE e1 vs)[i]? → i ∉ vs := fun i z => brw_wp z
  have we : wipe σ2 vs = wipe σ vs := wipe_eq hl hj hi
  have S23 := S2.tr S3
  have d3 : H3 D = some (.lst vacc) := S23.keep _ _ a1 a3
  have f3 : F3 D = none := S23.unfrozen a1 a3 a2
  have o3 : ¬ Owned H3 σ2 e3 D := S23.unown a1 a3
  cases b with
  | false =>
    show Cp K vs σ e1 F1 H1 D r (lcGo vs tg t el xs) H3
    have Rw := rel_wipe (vs := vs) R3
    have Sw := stp_wipe (vs := vs) S13 nb
    rw [we] at Rw Sw
    exact ⟨F3, wpE e3 vs, acc, vacc, Rw, Sw, d3, f3, fun z => o3 (wp_owned (σ := σ2) (by rw [we]; exact z)), dpa_ex S23.sub _ _ a4, h⟩
  | true =>
    show tD K WF (dEs el) σ2 H3 _
    obtain ⟨⟨w4, e4⟩, q4, h⟩ := Option.bind_eq_some_iff.mp h
    obtain ⟨y, q5, h⟩ := Option.bind_eq_some_iff.mp h
    have ew : w4 = .d y := by
      cases w4 with
      | d z => cases q5; rfl
      | _ => cases q5
    subst ew
    refine ⟨F3, e3, R3, ?_⟩
    show Go K WF (esR (el e3)) σ2 e3 F3 H3 _
    rw [okR_some q4]
    intro yv H4 F4 R4 S4 V4 N4
    by_cases hz : acc.length ≤ 1000000
    · have h : lcGo vs tg t el xs (wpE e4 vs) (acc ++ [y]) = some r := by
        have z : (if acc.length ≤ 1000000 then lcGo vs tg t el xs (wpE e4 vs) (acc ++ [y]) else none) = some r := h
        rwa [if_pos hz] at z
      have d4 : H4 D = some (.lst vacc) := S4.keep _ _ d3 o3
      have f4 : F4 D = none := S4.unfrozen d3 o3 f3
      have o4 : ¬ Owned H4 σ2 e4 D := S4.unown d3 o3
      refine ⟨vacc, d4, lt_line (by rw [dpa_len a4]; exact hz), ?_⟩
      obtain ⟨R5, S15, o5⟩ := acc_chg (o := .lst (vacc ++ [yv])) R4 (S13.tr S4) hD f4 o4
      have Rw := rel_wipe (vs := vs) R5
      have Sw := stp_wipe (vs := vs) S15 nb
      rw [we] at Rw Sw
      exact ⟨F4, wpE e4 vs, acc ++ [y], vacc ++ [yv], Rw, Sw, upd_same, f4, fun z => o5 (wp_owned (σ := σ2) (by rw [we]; exact z)), dpa_app (dpa_ex (S23.sub.tr S4.sub) _ _ a4) (.cons V4 .nil), h⟩
    · have z : (if acc.length ≤ 1000000 then lcGo vs tg t el xs (wpE e4 vs) (acc ++ [y]) else none) = some r := h
      rw [if_neg hz] at z
      cases z
/-- the end of the walk -/
theorem cp_done {F1 H1 : Hp} {D : Addr} {r : List PyData × En} {tg : PyData → En → Option En} {t el : DE} {Q : VK} {e0 : En} {F0 H0 : Hp} (R1 : Rel K F1 H1 σ e1) (no : noOwn e1 vs = true) (hD : H1 D = none) (S0 : Stp σ e0 F0 H0 σ e1 F1 H1)
    (h : Go K W (.ok (.own r.1) (rst e1 r.2 vs)) σ e0 F0 H0 Q) {Hc : Hp} (p : Cp K vs σ e1 F1 H1 D r (lcGo vs tg t el []) Hc) : Q (.ref D) Hc := by
  obtain ⟨F', e', acc, vacc, R, S, a1, a2, a3, a4, q⟩ := p
  cases q
  obtain ⟨RB, SB, OB⟩ := rel_back R1 no S R
  refine h (.ref D) Hc F' RB (S0.tr SB) ⟨⟨D, vacc, rfl, a2, a1, a4⟩, fun p hp => ?_⟩ fun p hp => ?_
  · cases hp
    rintro ⟨i, z⟩
    exact a3 ⟨i, OB i D z⟩
  · cases hp
    cases q : H0 D with
    | none => rfl
    | some o => exact absurd hD (S0.there D (by rw [q]; exact fun z => nomatch z))
theorem cp_start {F1 H1 : Hp} {D : Addr} {r : List PyData × En} {k : En → List PyData → Option (List PyData × En)} (R1 : Rel K F1 H1 σ e1) (hD : H1 D = none) (h : k (wpE e1 vs) [] = some r) : Cp K vs σ e1 F1 H1 D r k (upd H1 D (.lst [])) := by
  have Rw := rel_wipe (vs := vs) R1
  have fD := ex_none R1.ex hD
  obtain ⟨g1, g2, g3⟩ := rel_newO (o := .lst []) Rw hD
  exact ⟨F1, wpE e1 vs, [], [], g1, g2, upd_same, fD, fun z => Rw.notOwned hD (g3 _ z), .nil, h⟩
end
section
variable {X : Cx} {W : WX} {elt tg iter : Expr} {ifs : List Expr} {scope : Scope} {own : List (Str × Nat)} {f t el : DE} {g : TG} {tgf : PyData → En → Option En} {js : List Nat} {pos : Pos} {tt : TT}
theorem lc_read {vs : List Nat} (T : TgOk X.K js g tgf) (hj : ∀ j ∈ js, j ∈ vs) (htt : ∀ σ H Q, tDT X.K WF t σ H Q → tt σ H Q) : ∀ σ H Q, tD X.K W (dLc f vs tgf t el) σ H Q → tLc (iSeq X.K (tD X.K W (dEs f))) g tt (tD X.K WF (dEs el)) vs σ H Q := by
  rintro σ H Q ⟨F, e, R, h⟩
  refine ⟨F, e, R, Go.imp (Go.bnd (r := esR (f e)) h) ?_⟩
  rintro v H1 ⟨F1, e1, w1, R1, S1, V1, N1, h1⟩
  cases no : noOwn e1 vs with
  | false => rw [no] at h1; exact h1.elim
  | true =>
    rw [no] at h1
    have h1 : Go X.K W (outC ((dat1 w1).bind fun x => (items x).bind fun xs => lcGo vs tgf t el xs (wpE e1 vs) []) e1 vs) σ e F H Q := h1
    cases q : (dat1 w1).bind fun x => (items x).bind fun xs => lcGo vs tgf t el xs (wpE e1 vs) [] with
    | none => rw [q] at h1; exact h1.elim
    | some r =>
      rw [q] at h1
      have hr : Go X.K W (.ok (.own r.1) (rst e1 r.2 vs)) σ e F H Q := h1
      obtain ⟨x, q1, q⟩ := Option.bind_eq_some_iff.mp q
      obtain ⟨xs, q2, q⟩ := Option.bind_eq_some_iff.mp q
      have ew : w1 = .d x := by
        cases w1 with
        | d y => cases q1; rfl
        | _ => cases q1
      subst ew
      have V1 : Dp X.K F1 v x := V1
      have next : ∀ {us : List V} {i : Nat} {y : V}, DpAll X.K F1 us xs → us[i]? = some y → ∃ z, xs.drop i = z :: xs.drop (i + 1) ∧ Dp X.K F1 y z := by
        intro us i y da hy
        obtain ⟨z, hz, dz⟩ := dpa_get da hy
        refine ⟨z, ?_, dz⟩
        have hl := (List.getElem?_eq_some_iff.mp hz).1
        rw [List.drop_eq_getElem_cons hl]
        congr 1
        exact (List.getElem?_eq_some_iff.mp hz).2
      cases x with
      | list ys =>
        cases q2
        obtain ⟨a, us, rfl, hs', da⟩ := dp_list_ref V1
        refine ⟨a, rfl, .inl ⟨⟨us, sql_ex R1.ex hs'⟩, fun D hD => ?_⟩⟩
        refine lc_list (xs := us) (fun i H' => Cp X.K vs σ e1 F1 H1 D r (lcGo vs tgf t el (xs.drop i)) H') (cp_start R1 hD q) (fun i H' _ ⟨F', e', _, _, R', S', _⟩ => sql_ex (S'.sub.tr R'.ex) hs') (fun i y H' hy p => ?_) (fun H' p => ?_)
        · obtain ⟨z, ez, dz⟩ := next da hy
          rw [ez] at p
          exact cp_turn T hj htt hD (fun F2 x2 => dp_ex x2 _ _ dz) p
        · rw [dpa_len da, List.drop_length] at p
          exact cp_done R1 no hD S1 hr p
      | tuple ys =>
        cases q2
        obtain ⟨a, us, rfl, hs', da⟩ := dp_tup_ref V1
        refine ⟨a, rfl, .inr ⟨⟨us, sqt_ex R1.ex hs'⟩, fun D hD => ?_⟩⟩
        refine lc_tup (xs := us) (fun i H' => Cp X.K vs σ e1 F1 H1 D r (lcGo vs tgf t el (xs.drop i)) H') (cp_start R1 hD q) (fun i H' _ ⟨F', e', _, _, R', S', _⟩ => sqt_ex (S'.sub.tr R'.ex) hs') (fun i y H' hy p => ?_) (fun H' p => ?_)
        · obtain ⟨z, ez, dz⟩ := next da hy
          rw [ez] at p
          exact cp_turn T hj htt hD (fun F2 x2 => dp_ex x2 _ _ dz) p
        · rw [dpa_len da, List.drop_length] at p
          exact cp_done R1 no hD S1 hr p
      | _ => cases q2
/-- over a range -/
def dLcR (f : DE) (vs : List Nat) (tg : PyData → En → Option En) (t el : DE) : DE := fun e => bnd (f e) fun w e1 =>
  outC (bif noOwn e1 vs then (rs e1 w).bind fun x => (rngOf [x]).bind fun p => lcGo vs tg t el (rngD p.1 p.2) (wpE e1 vs) [] else none) e1 vs
theorem lcr_read {vs : List Nat} (T : TgOk X.K js g tgf) (hj : ∀ j ∈ js, j ∈ vs) (htt : ∀ σ H Q, tDT X.K WF t σ H Q → tt σ H Q) : ∀ σ H Q, tD X.K W (dLcR f vs tgf t el) σ H Q → tLc (iRng1 (tCons (tD X.K W f) tNil)) g tt (tD X.K WF (dEs el)) vs σ H Q := by
  rintro σ H Q ⟨F, e, R, h⟩
  refine ⟨F, e, R, Go.imp (Go.bnd h) ?_⟩
  rintro v H1 ⟨F1, e1, w1, R1, S1, V1, N1, h1⟩
  cases no : noOwn e1 vs with
  | false => rw [no] at h1; exact h1.elim
  | true =>
    rw [no] at h1
    have h1 : Go X.K W (outC ((rs e1 w1).bind fun x => (rngOf [x]).bind fun p => lcGo vs tgf t el (rngD p.1 p.2) (wpE e1 vs) []) e1 vs) σ e F H Q := h1
    cases q : (rs e1 w1).bind fun x => (rngOf [x]).bind fun p => lcGo vs tgf t el (rngD p.1 p.2) (wpE e1 vs) [] with
    | none => rw [q] at h1; exact h1.elim
    | some r =>
      rw [q] at h1
      have hr : Go X.K W (.ok (.own r.1) (rst e1 r.2 vs)) σ e F H Q := h1
      obtain ⟨x, q1, q⟩ := Option.bind_eq_some_iff.mp q
      obtain ⟨⟨lo, n⟩, q2, q⟩ := Option.bind_eq_some_iff.mp q
      cases x with
      | int j =>
        have q2 : (if -(2 ^ 62) ≤ j ∧ j < 2 ^ 62 then some ((0 : Int), j.toNat) else none) = some (lo, n) := q2
        by_cases hb : -(2 ^ 62) ≤ j ∧ j < 2 ^ 62
        · rw [if_pos hb] at q2
          cases q2
          refine ⟨j, by rw [dh_int (rs_dh R1 V1 q1)], hb.1, hb.2, fun D hD => ?_⟩
          refine lc_range (lo := 0) (n := j.toNat) (fun i H' => Cp X.K vs σ e1 F1 H1 D r (lcGo vs tgf t el ((rngD 0 j.toNat).drop i)) H') (cp_start R1 hD q) (fun i H' hi p => ?_) (fun H' p => ?_)
          · rw [rngD_drop 0 _ i hi] at p
            exact cp_turn T hj htt hD (fun F2 _ => .int _) p
          · have z : (rngD 0 j.toNat).drop j.toNat = [] := by
              have := List.drop_length (l := rngD 0 j.toNat)
              rwa [rngD_len] at this
            rw [z] at p
            exact cp_done R1 no hD S1 hr p
        · rw [if_neg hb] at q2; cases q2
      | _ => cases q2
theorem tt_yes : ∀ σ H Q, tDT X.K WF (dC (.bool true)) σ H Q → tYes σ H Q := by
  rintro σ H Q ⟨F, e, R, b, q, h⟩
  cases q
  exact h H F R Stp.rfl'
end
end Vf
/-! raise; try: .. except C as e: x = e. -/
namespace Vf
open PySem PySem.Spec L2
open PyProof.Rows hiding St
section
variable {X : Cx} {W : WX} {e : Expr} {pos pos2 : Pos}
theorem ps_d_raise {c : Str} (hc : X.calm = true) (tk : Takes X W) (h : PMk X e (fun _ H Q => Q (cl X.K c) none H)) : PS X (.Raise (some e) none pos) (tDS X.K W (dRaise c)) := by
  refine PS.to (ps_raise hc tk h) ?_
  rintro D σ H ⟨F, e, R, h⟩
  exact h σ H F R Stp.rfl'
end
section
variable {X : Cx} {pins : List (Addr × Obj)} {σ : St} {H : Hp} {s : Shared}
/-- an exception that was pinned is tracked from now on -/
theorem inv_track {a : Addr} {oe : Obj} {cls : Value} (I : Inv X pins σ H s)
    (hg : s.heap.get? a = some oe) (hz : Zc cls none oe) (hd : ∃ vs, oe.data = .fields vs)
    (hn : H a = none) (hL : a ≠ X.env.locals) (h0 : X.s_0.heap.get? a = none)
    (hp : ∀ p ∈ X.pn ++ pins, p.1 ≠ a) : Inv X pins σ (upd H a (ExH cls a)) s := by
  obtain ⟨vs, hd⟩ := hd
  have ne : ∀ {b : Addr} {o : HO}, H b = some o → b ≠ a := fun h => ne_of_none h hn
  have n0 : ∀ {b : Addr} {o : Obj}, X.s_0.heap.get? b = some o → b ≠ a := by
    intro b o h z
    rw [z, h0] at h; cases h
  have B := I.base
  refine ⟨I.ok, I.os, I.bare, ⟨B.keep, B.slot, ?_, B.there, ?_, ?_, ?_⟩, I.loc, I.cell, ?_, ?_, ?_, ?_, I.len⟩
  · intro b o h1 h2 h3
    rw [upd_ne (n0 h1)]
    exact B.free b o h1 h2 h3
  · intro b xs h1
    have q := B.tups b xs h1
    rw [upd_ne (ne q)]; exact q
  · intro b o u h1
    have q := B.frzs b o u h1
    rw [upd_ne (ne q)]; exact q
  · intro b ps h1
    obtain ⟨m, q⟩ := B.tbls b ps h1
    exact ⟨m, by rw [upd_ne (ne q)]; exact q⟩
  · rw [upd_ne (Ne.symm hL)]; exact I.free
  · intro x c hc
    have nc : c ≠ a := by
      intro z
      obtain ⟨v, o, ho, hdo⟩ := I.cell x c hc
      rw [z, hg] at ho
      cases ho
      rw [hd] at hdo; cases hdo
    rw [upd_ne nc]; exact I.freeC x c hc
  · intro p hm
    obtain ⟨a1, a2, a3⟩ := I.pin p hm
    exact ⟨a1, by rw [upd_ne (hp p hm)]; exact a2, a3⟩
  · intro b u hb
    by_cases hba : b = a
    · subst hba
      rw [upd_same] at hb
      cases hb
      exact ⟨⟨oe, vs, hg, hz, hd⟩, ⟨oe, hg⟩, fun _ _ ⟨o, v, q1, q2⟩ k => ⟨o, v, k o q1, q2⟩⟩
    · rw [upd_ne hba] at hb
      refine (I.hok b u hb).stay (fun _ _ _ q => q) ?_ ?_
      · intro c q
        rw [upd_ne (ne q)]; exact q
      · intro c xs q
        rw [upd_ne (ne q)]; exact q
end
/-- what the clause wishes of the body's exception -/
def wKeep (K : PySem.W.Frag) (c : Value) (i j : Nat) (Wout : WX) (D : Ends) : WX := fun cls d σ H =>
  ∃ b, PySem.W.exmOne K cls c = some b ∧
    (b = true → d = none ∧ ∀ a, H a = none → D.nx (((σ.set i (some (.ref a))).set j (some (.ref a))).set i none) (upd H a (ExH cls a))) ∧
    (b = false → Wout cls d σ H)
section
variable {X : Cx} {x n y : Str} {c : Value} {i j : Nat} {body : List Stmt}
  {np pos pos' q1 q2 q3 : Pos} {tb : WX → TS} {Wout : WX}
theorem ps_tryK (hs : X.stack = X.env :: X.outer) (hf : X.env.frame = some X.env.locals) (hex : X.ex = [])
    (hN : X.N.Nodup) (hi : X.N[i]? = some n) (hln : X.env.kindOf n = some .local)
    (hj : X.N[j]? = some y) (hly : X.env.kindOf y = some .local)
    (hvn : Vis X.env.scope n) (hdn : (n == ("__debug__" : Str)) = false) (hcn : (n == ("__classdict__" : Str)) = false)
    (hc : Names X x c) (tk : Takes X Wout)
    (hb : ∀ (W : WX) (pn : List (Addr × Obj)) (xe : Value → Shared → Prop),
      Takes (X.tr pn xe) W → PassesOwn (model X.prog X.w) X.A X.env xe → PSs (X.tr pn xe) body (tb W))
    (hsw : swapsWith (.Name n q1) (some (.Name y q2)) q3.line X.env = pure false := by rfl) :
    PS X (.Try body [.ExceptHandler (some (.Name x np)) (some n) [.Assign [.Name y q2] (.Name n q1) q3] pos'] [] [] pos)
      (fun D σ H => tb (wKeep X.K c i j Wout D) D σ H) := by
  constructor
  intro pins s σ H D I h
  have ok := I.ok
  have hfr : X.A.frames = some (X.env :: X.outer) := by rw [ok.frames, hs]
  have hloc : Loc X.env.scope n := .inl hln
  refine wpAny_Try_except ?_
  refine wpAny_mono ((hb (wKeep X.K c i j Wout D) (X.pn ++ pins) _ ?_ PassesOwn.looking).run [] s σ H D (I.toTry _) h) ?_ (fun e s1 he => he)
  · rintro u s' ⟨a, B, sI, pins', σ', H', cls, d, rfl, J', nb, up, sky, na, os, ag, b, hb1, hyes, hno⟩
    have J : Inv X pins σ' H' sI := J'.ofTry ok
    have sky2 : Sky B (X.env :: X.outer) a (Zc cls d) X.env.locals s'.heap := by
      rw [← hs]; exact sky
    show wpAny (model X.prog X.w) X.A (noteFrame (.ref a) X.env) _ _ _
    refine Sky.land Zc.steady hfr hf sky2 ?_
    intro h3 fl3 up3
    have J3 : Inv X pins σ' H' { s' with heap := h3 } :=
      J.landed nb fl3.1 (up.trans up3) os ag
    obtain ⟨oe3, vs3, he3, hz3, hd3⟩ := fl3.there
    have nfr : a ∉ frs (X.env :: X.outer) := by
      intro hm
      obtain ⟨_, o', e', hnf⟩ := fl3.2.2.1.mem hm
      rw [he3] at e'; cases e'
      exact hnf _ hd3
    have nL : a ≠ X.env.locals := fun z =>
      nfr (List.mem_filterMap.mpr ⟨X.env, List.mem_cons_self, by rw [hf, z]⟩)
    have nF : a ∉ X.fs := by
      intro hm
      obtain ⟨e, he, q⟩ := List.mem_filterMap.mp hm
      exact nfr (List.mem_filterMap.mpr ⟨e, List.mem_cons_of_mem _ he, q⟩)
    have nB : B.get? a = none := fl3.2.1
    have nI : sI.heap.get? a = none := by
      cases q : sI.heap.get? a with
      | none => rfl
      | some o =>
        have z := nb a o q (by rw [hs]; exact nfr)
        rw [nB] at z; cases z
    have n0 : X.s_0.heap.get? a = none := by
      cases q : X.s_0.heap.get? a with
      | none => rfl
      | some o =>
        obtain ⟨o', z⟩ := J.base.there a o q (by rw [hex]; exact List.not_mem_nil)
        rw [nI] at z; cases z
    have npin : ∀ p ∈ X.pn ++ pins, p.1 ≠ a := by
      intro p hp z
      have w1 := (J.pin p hp).1
      rw [z, nI] at w1; cases w1
    have S3 := J3.suite he3 hd3 na nL nF
    refine wpAny_handleBy_cons (codeAny_handlers_test ?_) (by intro q; cases q)
    have LT : PySem.W.Looks (model X.prog X.w) h3 (typeOf (.ref a)) cls := by
      intro A Q E s k q
      exact wpAny_typeOf_ref (k _ _ he3) (by rw [hz3.1]; exact q)
    have LM := PySem.W.exm_one (M := model X.prog X.w) (J3.kIn) LT hb1
    have test : ∀ {Q : Value → Shared → Prop} {E : Value → Shared → Prop}, Q c { s' with heap := h3 } →
        wpAny (model X.prog X.w) (X.A.mark (some (.ref a))) (eval (.Name x np) X.env) Q E { s' with heap := h3 } := by
      intro Q E q
      obtain ⟨hg, hdbg, hm | ⟨hm, hv, hnn⟩⟩ := hc
      · exact ld_glob (X := X.suite a ((a, oe3) :: (X.pn ++ pins))) S3 hg hm q hdbg
      · exact ld_blt (X := X.suite a ((a, oe3) :: (X.pn ++ pins))) S3 hg hm hv q hnn hdbg
    refine test (LM.here ?_)
    cases b with
    | true =>
      obtain ⟨ed, hyes2⟩ := hyes rfl
      subst ed
      refine codeAny_handlers_suite_as ?_
      refine HandSPX.lands_againZ fl3 ?_
      intro h4 fl4 up4
      have J4 : Inv X pins σ' H' { s' with heap := h4 } :=
        J.landed nb fl4.1 ((up.trans up3).trans up4) os ag
      obtain ⟨oe4, vs4, he4, hz4, hd4⟩ := fl4.there
      have S4 := J4.suite he4 hd4 na nL nF
      refine store_ok (X := X.suite a ((a, oe4) :: (X.pn ++ pins))) (v := .ref a) S4 hN hi hloc rfl ?_ (.inr hln)
      intro s5 S5
      have lenI : i < σ'.length := by
        rw [J.len]; exact (List.getElem?_eq_some_iff.mp hi).1
      -- y = n
      have step : PSs (X.suite a ((a, oe4) :: (X.pn ++ pins))) [.Assign [.Name y q2] (.Name n q1) q3] (tAsg (tVar i) (gName j)) :=
        pss_one (ps_set (X := X.suite a ((a, oe4) :: (X.pn ++ pins))) hN hj (.inl hly) (pe_var hi hvn hdn hcn) hsw (.inr hly))
      have run := step.run [] s5 (σ'.set i (some (.ref a))) H'
        { nx := fun σ2 H2 => σ2 = (σ'.set i (some (.ref a))).set j (some (.ref a)) ∧ H2 = H', rt := fun _ _ => False } S5
        ⟨.ref a, by rw [List.getElem?_set_self lenI], rfl, rfl⟩
      refine wpAny_mono run ?_ (fun _ _ z => False.elim z)
      intro f s6 hsp
      cases f with
      | next =>
        obtain ⟨σ6, H6, S6, rfl, rfl⟩ := hsp
        have P6 := S6.pin (a, oe4) (List.mem_append_left _ List.mem_cons_self)
        have J6 := inv_track (cls := cls) (S6.unsuite ok) P6.1 hz4 ⟨_, hd4⟩ na nL n0 npin
        refine gone_ok J6 hN hi hln ?_
        intro s7 J7
        exact ⟨_, _, J7, hyes2 a na⟩
      | brk => exact (hsp.elim fun _ z => z.elim fun _ z => z.2).elim
      | cont => exact (hsp.elim fun _ z => z.elim fun _ z => z.2).elim
      | ret u => exact (hsp.elim fun _ z => z.elim fun _ z => z.elim fun _ z => z.2.2).elim
    | false =>
      show wpAny _ X.A (handleBy (.ref a) X.env []) _ _ _
      refine wpAny_handleBy_nil ?_
      obtain ⟨k1, k2, k3, oe, vs, T, oT, ts', he, hz, hd, h1, hr⟩ := id fl3
      unfold PySem.passOn
      refine wpAny_bind (wpAny_field he hd h1 ?_)
      rw [if_neg (show ¬ ((Value.ref T == Value.none) = true) from by simp)]
      have fin : wpAny (model X.prog X.w) X.A (setFlight (.ref a) X.env.frame)
          (fun _ s4 => wpAny (model X.prog X.w) X.A (throw (.ref a) : Sem Flow) (SP X pins D) X.xe s4) X.xe { s' with heap := h3 } := by
        rw [hf]
        refine HandSPX.setFlight_upZ fl3 ?_
        intro h4 hh4 up4
        refine wpAny_throw (tk _ _ ?_)
        exact ⟨a, B, sI, pins, σ', H', cls, d, rfl, J, nb, (up.trans up3).trans up4,
          .inr (.inr (by rw [hs]; exact hh4)), na, os, ag, hno rfl⟩
      first
        | exact wpAny_bind (wpAny_pure (wpAny_bind fin))
        | exact wpAny_bind fin
  · intro f s1 hsp
    cases f with
    | next =>
      obtain ⟨σ', H', J', q⟩ := hsp
      exact wpAny_execs_nil ⟨σ', H', J'.ofTry ok, q⟩
    | brk =>
      obtain ⟨σ', H', J', q⟩ := hsp
      exact ⟨σ', H', J'.ofTry ok, q⟩
    | cont =>
      obtain ⟨σ', H', J', q⟩ := hsp
      exact ⟨σ', H', J'.ofTry ok, q⟩
    | ret u =>
      obtain ⟨v, σ', H', J', r, q⟩ := hsp
      exact ⟨v, σ', H', J'.ofTry ok, r, q⟩
end
end Vf
/-! try; a def's promise; calls. -/
namespace Vf
open PySem PySem.Spec L2
open PyProof.Rows hiding St
section
variable {K : PySem.W.Frag} {F H F' H' : Hp} {σ σ' : St} {e e' e1 : En} {v : V} {w : Wv} {W : WX}
theorem rel_unset (R : Rel K F H σ e) (i : Nat) (o : Option V) : Rel K F H (σ.set i o) (e.set i none) where
  ex := R.ex
  len := by rw [List.length_set, List.length_set]; exact R.len
  at_ := fun j w hj => by
    rcases getSet hj with ⟨_, q⟩ | ⟨n, q⟩
    · cases q
    · obtain ⟨v, h1, h2⟩ := R.at_ j w q
      exact ⟨v, by rw [List.getElem?_set_ne (Ne.symm n)]; exact h1, h2⟩
  sep := fun j k p oj ok => by
    have g : ∀ j, Ow H (σ.set i o) (e.set i none) j p → Ow H σ e j p := fun j q => by
      obtain ⟨n, v, w, h1, h2, h3⟩ := ow_drop q
      rw [List.getElem?_set_ne (Ne.symm n)] at h2
      exact ⟨v, w, h1, h2, h3⟩
    exact R.sep j k p (g j oj) (g k ok)
theorem stp_unset {σ0 : St} {e0 : En} {F0 H0 : Hp} (S : Stp σ0 e0 F0 H0 σ e F H) {i : Nat} {c : Str} (hi : e[i]? = some (some (.exc c))) (o : Option V) : Stp σ0 e0 F0 H0 (σ.set i o) (e.set i none) F H where
  sub := S.sub
  keep := S.keep
  shr := fun a ⟨j, q⟩ => by
    obtain ⟨n, v, w, h1, h2, h3⟩ := ow_drop q
    rw [List.getElem?_set_ne (Ne.symm n)] at h2
    exact S.shr a ⟨j, v, w, h1, h2, h3⟩
  grow := S.grow
  pin := fun j xs q => by
    obtain ⟨h1, ys, h2⟩ := S.pin j xs q
    have n : i ≠ j := fun z => by rw [← z, hi] at h2; cases h2
    exact ⟨by rw [List.getElem?_set_ne n]; exact h1, ys, by rw [List.getElem?_set_ne n]; exact h2⟩
  pin2 := fun j xs q => by
    obtain ⟨h1, ys, h2⟩ := S.pin2 j xs q
    have n : i ≠ j := fun z => by rw [← z, hi] at h2; cases h2
    exact ⟨by rw [List.getElem?_set_ne n]; exact h1, ys, by rw [List.getElem?_set_ne n]; exact h2⟩
  there := S.there
/-- something new that stays -/
theorem rel_more (R : Rel K F H σ e) {a : Addr} (h : H a = none) (o : HO) : Rel K (upd F a o) (upd H a o) σ e ∧ Stp σ e F H σ e (upd F a o) (upd H a o) :=
  ⟨(rel_newF R h).1, (rel_newF R h).2.1⟩
/-! ### try: body except C as n: y = n -/
def catchO (o : Out) (cat : Str → Option Bool) (i j : Nat) : Out := match o with
  | .err c e1 => (match cat c with
    | some true => optS ((setW e1 i (.exc c)).bind fun e2 => (setW e2 j (.exc c)).bind fun e3 => if i = j then none else some (e3.set i none))
    | some false => .err c e1
    | none => .bad)
  | o => o
def dTry (s : DS) (cat : Str → Option Bool) (i j : Nat) : DS := fun e => catchO (s e) cat i j
theorem try_read {C : Str} {s : DS} {cat : Str → Option Bool} {i j : Nat} (hcat : ∀ c b, cat c = some b → PySem.W.exmOne K (cl K c) (cl K C) = some b) :
    ∀ D σ H, tDS K W (dTry s cat i j) D σ H → tDS K (wKeep K (cl K C) i j W D) s D σ H := by
  rintro D σ H ⟨F, e, R, h⟩
  refine ⟨F, e, R, ?_⟩
  have h : SGo K W (catchO (s e) cat i j) σ e F H D := h
  cases q : s e with
  | nx e1 => rw [q] at h; exact h
  | rt w e1 => rw [q] at h; exact h
  | bk e1 => rw [q] at h; exact h
  | ct e1 => rw [q] at h; exact h
  | bad => rw [q] at h; exact h
  | err c e1 =>
    rw [q] at h
    intro σ' H' F' R' S'
    have h : SGo K W (match cat c with
      | some true => optS ((setW e1 i (.exc c)).bind fun e2 => (setW e2 j (.exc c)).bind fun e3 => if i = j then none else some (e3.set i none))
      | some false => .err c e1
      | none => .bad) σ e F H D := h
    cases z : cat c with
    | none => rw [z] at h; exact h.elim
    | some b =>
      rw [z] at h
      refine ⟨b, hcat c b z, fun hb => ⟨rfl, fun a ha => ?_⟩, fun hb => ?_⟩
      · subst hb
        obtain ⟨e4, q1, h4⟩ := h.opt
        obtain ⟨e2, q2, q1⟩ := Option.bind_eq_some_iff.mp q1
        obtain ⟨e3, q3, q1⟩ := Option.bind_eq_some_iff.mp q1
        by_cases hij : i = j
        · rw [if_pos hij] at q1; cases q1
        · rw [if_neg hij] at q1
          cases q1
          obtain ⟨R2, S2⟩ := rel_more R' ha (ExH (cl K c) a)
          have rv : RV K (upd F' a (ExH (cl K c) a)) (upd H' a (ExH (cl K c) a)) (.ref a) (.exc c) := ⟨a, rfl, upd_same⟩
          obtain ⟨R3, S3⟩ := setW_ok (S'.tr S2) R2 rv (fun a ha => by cases ha) q2
          obtain ⟨R4, S4⟩ := setW_ok S3 R3 rv (fun a ha => by cases ha) q3
          have hi : e3[i]? = some (some (.exc c)) := by
            obtain ⟨l2, _, rfl⟩ := setW_some q2
            obtain ⟨l3, _, rfl⟩ := setW_some q3
            rw [List.getElem?_set_ne (Ne.symm hij), List.getElem?_set_self l2]
          exact h4 _ _ _ (rel_unset R4 i none) (stp_unset S4 hi none)
      · subst hb
        exact h σ' H' F' R' S'
/-! ### a def -/
inductive Rf where
  | ok (w : Wv) (ws : List Wv)
  | err (c : Str) (ws : List Wv)
  | bad
abbrev FD := List Wv → Rf
def FGo (K : PySem.W.Frag) (r : Rf) (vs : List V) (ws : List Wv) (F H : Hp) (Q : VK) (E : XK) : Prop := match r with
  | .ok w ws' => ∀ v H' F', Rel K F' H' (vs.map some) (ws'.map some) → Stp (vs.map some) (ws.map some) F H (vs.map some) (ws'.map some) F' H' → VV K F' H' (vs.map some) (ws'.map some) v w → Nw H H' v w → Q v H'
  | .err c ws' => ∀ H' F', Rel K F' H' (vs.map some) (ws'.map some) → Stp (vs.map some) (ws.map some) F H (vs.map some) (ws'.map some) F' H' → E (cl K c) none H'
  | .bad => False
def argOk : Wv → Bool
  | .d _ => true
  | .brw _ => true
  | .exc _ => true
  | .ff _ => true
  | _ => false
def spD (K : PySem.W.Frag) (n : Nat) (f : FD) : Sp := fun vs H Q E => vs.length = n ∧ ∃ F ws, ws.length = n ∧ ws.all argOk = true ∧ Rel K F H (vs.map some) (ws.map some) ∧ FGo K (f ws) vs ws F H Q E
/-- the parameters behind the body -/
def back1 (w : Wv) (o : Option Wv) : Wv := match w with
  | .brw xs => (match o with
    | some (.brw ys) => .brw ys
    | _ => .brw xs)
  | w => w
def backs : List Wv → En → List Wv
  | [], _ => []
  | w :: ws, e => back1 w (e.headD none) :: backs ws e.tail
def finR (ws : List Wv) (o : Out) : Rf := match o with
  | .rt (.loc _) _ => .bad
  | .rt (.brw _) _ => .bad
  | .rt (.bt _) _ => .bad
  | .rt w e => .ok w (backs ws e)
  | .nx e => .ok (.d .none) (backs ws e)
  | .err c e => .err c (backs ws e)
  | _ => .bad
def ent (N : Nat) (ws : List Wv) : En := ws.map some ++ List.replicate (N - ws.length) none
def fnD (N : Nat) (s : DS) : FD := fun ws => finR ws (s (ent N ws))
theorem backs_len : ∀ (ws : List Wv) (e : En), (backs ws e).length = ws.length
  | [], _ => rfl
  | w :: ws, e => congrArg (· + 1) (backs_len ws e.tail)
theorem backs_at : ∀ (ws : List Wv) (e : En) (i : Nat) (w : Wv), (backs ws e)[i]? = some w → (∃ xs ys, ws[i]? = some (.brw xs) ∧ e[i]? = some (some (.brw ys)) ∧ w = .brw ys) ∨ (ws[i]? = some w ∧ ((∃ xs, w = .brw xs) → ∀ ys, e[i]? ≠ some (some (.brw ys))))
  | [], _, _, _, h => by cases h
  | w0 :: ws, e, i + 1, w, h => by
    have z : e.tail[i]? = e[i + 1]? := by cases e <;> simp
    have q := backs_at ws e.tail i w h
    rw [z] at q
    exact q
  | w0 :: ws, e, 0, w, h => by
    have h : some (back1 w0 (e.headD none)) = some w := h
    have hd : ∀ o, e[0]? = some o → e.headD none = o := fun o q => by
      cases e with
      | nil => cases q
      | cons a r => exact Option.some.inj q
    cases w0 with
    | brw xs =>
      cases q : e[0]? with
      | none =>
        have z : e.headD none = none := by
          cases e with
          | nil => rfl
          | cons a r => cases q
        rw [z] at h
        cases h
        exact .inr ⟨rfl, fun _ ys hy => by cases hy⟩
      | some o =>
        rw [hd o q] at h
        match o, h, q with
        | some (.brw ys), h, q => cases h; exact .inl ⟨xs, ys, rfl, rfl, rfl⟩
        | none, h, q => cases h; exact .inr ⟨rfl, fun _ ys hy => by cases hy⟩
        | some (.d x), h, q => cases h; exact .inr ⟨rfl, fun _ ys hy => by cases hy⟩
        | some (.own x), h, q => cases h; exact .inr ⟨rfl, fun _ ys hy => by cases hy⟩
        | some (.loc x), h, q => cases h; exact .inr ⟨rfl, fun _ ys hy => by cases hy⟩
        | some (.exc x), h, q => cases h; exact .inr ⟨rfl, fun _ ys hy => by cases hy⟩
        | some (.ot x), h, q => cases h; exact .inr ⟨rfl, fun _ ys hy => by cases hy⟩
        | some (.bt x), h, q => cases h; exact .inr ⟨rfl, fun _ ys hy => by cases hy⟩
        | some (.fo x), h, q => cases h; exact .inr ⟨rfl, fun _ ys hy => by cases hy⟩
        | some (.ff x), h, q => cases h; exact .inr ⟨rfl, fun _ ys hy => by cases hy⟩
    | d x => cases h; exact .inr ⟨rfl, fun ⟨_, z⟩ => by cases z⟩
    | own x => cases h; exact .inr ⟨rfl, fun ⟨_, z⟩ => by cases z⟩
    | loc x => cases h; exact .inr ⟨rfl, fun ⟨_, z⟩ => by cases z⟩
    | exc x => cases h; exact .inr ⟨rfl, fun ⟨_, z⟩ => by cases z⟩
    | ot x => cases h; exact .inr ⟨rfl, fun ⟨_, z⟩ => by cases z⟩
    | bt x => cases h; exact .inr ⟨rfl, fun ⟨_, z⟩ => by cases z⟩
    | fo x => cases h; exact .inr ⟨rfl, fun ⟨_, z⟩ => by cases z⟩
    | ff x => cases h; exact .inr ⟨rfl, fun ⟨_, z⟩ => by cases z⟩
theorem getMapSome {α : Type} {l : List α} {i : Nat} {a : α} : (l.map some)[i]? = some (some a) ↔ l[i]? = some a := by
  rw [List.getElem?_map]
  cases l[i]? <;> simp
/-- the slots at a def's entry -/
theorem ent_at {N : Nat} {ws : List Wv} {i : Nat} {w : Wv} (h : (ent N ws)[i]? = some (some w)) : ws[i]? = some w := by
  unfold ent at h
  by_cases hi : i < ws.length
  · rw [List.getElem?_append_left (by simpa using hi)] at h
    exact getMapSome.mp h
  · rw [List.getElem?_append_right (by simpa using hi), List.getElem?_replicate] at h
    split at h <;> cases h
theorem start_at {N : List Str} {vs : List V} {i : Nat} {v : V} (h : vs[i]? = some v) : (start N vs)[i]? = some (some v) := by
  unfold L2.start
  rw [List.getElem?_append_left (by simpa using (List.getElem?_eq_some_iff.mp h).1)]
  exact getMapSome.mpr h
theorem start_of {N : List Str} {vs : List V} {i : Nat} {v : V} (h : (start N vs)[i]? = some (some v)) : vs[i]? = some v := by
  unfold L2.start at h
  by_cases hi : i < vs.length
  · rw [List.getElem?_append_left (by simpa using hi)] at h
    exact getMapSome.mp h
  · rw [List.getElem?_append_right (by simpa using hi), List.getElem?_replicate] at h
    split at h <;> cases h
theorem rel_ent {N : List Str} {vs : List V} {ws : List Wv} (R : Rel K F H (vs.map some) (ws.map some)) : Rel K F H (start N vs) (ent N.length ws) := by
  have hl : vs.length = ws.length := by simpa using R.len
  refine ⟨R.ex, ?_, fun i w h => ?_, fun i j p oi oj => ?_⟩
  · unfold L2.start ent
    rw [List.length_append, List.length_append, List.length_map, List.length_map, List.length_replicate, List.length_replicate, hl]
  · obtain ⟨v, h1, h2⟩ := R.at_ i w (getMapSome.mpr (ent_at h))
    exact ⟨v, start_at (getMapSome.mp h1), h2⟩
  · have g : ∀ i, Ow H (start N vs) (ent N.length ws) i p → Ow H (vs.map some) (ws.map some) i p := fun i ⟨v, w, h1, h2, h3⟩ => ⟨v, w, getMapSome.mpr (ent_at h1), getMapSome.mpr (start_of h2), h3⟩
    exact R.sep i j p (g i oi) (g j oj)
theorem ent_owned {N : List Str} {vs : List V} {ws : List Wv} {a : Addr} : Owned H (start N vs) (ent N.length ws) a → Owned H (vs.map some) (ws.map some) a :=
  fun ⟨i, v, w, h1, h2, h3⟩ => ⟨i, v, w, getMapSome.mpr (ent_at h1), getMapSome.mpr (start_of h2), h3⟩
theorem ent_of {N : Nat} {ws : List Wv} {i : Nat} {w : Wv} (h : ws[i]? = some w) : (ent N ws)[i]? = some (some w) := by
  unfold ent
  rw [List.getElem?_append_left (by simpa using (List.getElem?_eq_some_iff.mp h).1)]
  exact getMapSome.mpr h
/-- an own argument is the caller's -/
theorem arg_ow {ws : List Wv} (ha : ws.all argOk = true) {w : Wv} {i : Nat} (h : ws[i]? = some w) {v : V} {a : Addr} (o : a ∈ adr H v w) : (∃ xs, w = .brw xs) ∧ v = .ref a := by
  have q := List.all_eq_true.mp ha w (List.mem_of_getElem? h)
  cases w with
  | brw xs =>
    refine ⟨⟨xs, rfl⟩, ?_⟩
    cases v with
    | ref p => rw [List.mem_singleton.mp o]
    | _ => cases o
  | own xs => cases q
  | ot xs => cases q
  | bt xs => cases q
  | fo xs => cases q
  | _ => cases o
/-- what a body leaves, told of the parameters -/
theorem back_ok {N : List Str} {vs : List V} {ws : List Wv} (ha : ws.all argOk = true) (R0 : Rel K F H (vs.map some) (ws.map some)) (S : Stp (start N vs) (ent N.length ws) F H σ' e' F' H') (R : Rel K F' H' σ' e') :
    Rel K F' H' (vs.map some) ((backs ws e').map some) ∧ Stp (vs.map some) (ws.map some) F H (vs.map some) ((backs ws e').map some) F' H' ∧
      (∀ p, Owned H' (vs.map some) ((backs ws e').map some) p → Owned H' σ' e' p) ∧ (∀ p, Owned H (start N vs) (ent N.length ws) p → Owned H' σ' e' p) := by
  have hl : vs.length = ws.length := by simpa using R0.len
  -- a caller's list is still where it was
  have stay : ∀ (i : Nat) xs, ws[i]? = some (.brw xs) → ∃ v ys, vs[i]? = some v ∧ σ'[i]? = some (some v) ∧ e'[i]? = some (some (.brw ys)) ∧ (backs ws e')[i]? = some (.brw ys) := by
    intro i xs h
    obtain ⟨h1, ys, h2⟩ := S.pin i xs (ent_of h)
    obtain ⟨v, h3, _⟩ := R0.at_ i _ (getMapSome.mpr h)
    have h3 := getMapSome.mp h3
    refine ⟨v, ys, h3, by rw [h1]; exact start_at h3, h2, ?_⟩
    have hb : i < (backs ws e').length := by
      rw [backs_len]; exact (List.getElem?_eq_some_iff.mp h).1
    obtain ⟨w, hw⟩ : ∃ w, (backs ws e')[i]? = some w := ⟨_, List.getElem?_eq_getElem hb⟩
    rcases backs_at ws e' i w hw with ⟨_, zs, _, g2, g3⟩ | ⟨g1, g2⟩
    · rw [h2] at g2
      cases g2
      rw [hw, g3]
    · rw [h] at g1
      cases g1
      exact absurd h2 (g2 ⟨xs, rfl⟩ ys)
  -- of the parameters behind the body, only the caller's lists are own
  have bo : ∀ (i : Nat) (w : Wv) (v : V) (a : Addr), (backs ws e')[i]? = some w → a ∈ adr H' v w → (∃ xs, ws[i]? = some (Wv.brw xs)) ∧ (∃ ys, w = .brw ys) ∧ v = .ref a := by
    intro i w v a h o
    rcases backs_at ws e' i w h with ⟨xs, ys, g1, _, rfl⟩ | ⟨g1, _⟩
    · refine ⟨⟨xs, g1⟩, ⟨ys, rfl⟩, ?_⟩
      cases v with
      | ref p => rw [List.mem_singleton.mp o]
      | _ => cases o
    · obtain ⟨⟨xs, z⟩, z2⟩ := arg_ow ha g1 o
      exact ⟨⟨xs, by rw [g1, z]⟩, ⟨xs, z⟩, z2⟩
  have one : ∀ {a : Addr} {ys : List PyData}, a ∈ adr H' (.ref a) (.brw ys) := fun {a ys} => List.mem_singleton.mpr rfl
  have own1 : ∀ i a, Ow H' (vs.map some) ((backs ws e').map some) i a → Ow H' σ' e' i a := by
    rintro i a ⟨v, w, h1, h2, h3⟩
    have h1 := getMapSome.mp h1
    obtain ⟨⟨xs, hx⟩, _, rfl⟩ := bo i w v a h1 h3
    obtain ⟨v', ys, g1, g2, g3, _⟩ := stay i xs hx
    have h2 := getMapSome.mp h2
    rw [g1] at h2
    cases h2
    exact ⟨_, _, g3, g2, one⟩
  have own2 : ∀ p, Owned H (vs.map some) (ws.map some) p → Owned H' σ' e' p := by
    rintro p ⟨i, v, w, h1, h2, h3⟩
    have h1 := getMapSome.mp h1
    obtain ⟨⟨xs, rfl⟩, rfl⟩ := arg_ow ha h1 h3
    obtain ⟨v', ys, g1, g2, g3, _⟩ := stay i xs h1
    have h2 := getMapSome.mp h2
    rw [g1] at h2
    cases h2
    exact ⟨i, _, _, g3, g2, one⟩
  refine ⟨⟨R.ex, by simp [backs_len, hl], fun i w h => ?_, fun i j p oi oj => R.sep i j p (own1 i p oi) (own1 j p oj)⟩, ⟨S.sub, fun a o q n => S.keep a o q fun z => n (ent_owned z), ?_, ?_, ?_, ?_, S.there⟩, fun p ⟨i, z⟩ => ⟨i, own1 i p z⟩, fun p h => own2 p (ent_owned h)⟩
  · have z1 := getMapSome.mp h
    rcases backs_at ws e' i w z1 with ⟨xs, ys, g1, g2, rfl⟩ | ⟨g1, _⟩
    · obtain ⟨v, zs, k1, k2, k3, _⟩ := stay i xs g1
      obtain ⟨v', k4, r⟩ := R.at_ i _ g2
      rw [k2] at k4
      cases k4
      exact ⟨v, getMapSome.mpr k1, r⟩
    · obtain ⟨v, k1, r⟩ := R0.at_ i w (getMapSome.mpr g1)
      refine ⟨v, k1, ?_⟩
      have q := List.all_eq_true.mp ha w (List.mem_of_getElem? g1)
      cases w with
      | d x => exact dp_ex S.sub _ _ r
      | exc c => obtain ⟨a, ea, h⟩ := r; exact ⟨a, ea, S.sub _ _ h⟩
      | ff t => obtain ⟨p, o, ea, h1, h2⟩ := r; exact ⟨p, o, ea, S.sub _ _ h1, ftok_ex S.sub h2⟩
      | own xs => cases q
      | loc i => cases q
      | ot t => cases q
      | bt t => cases q
      | fo t => cases q
      | brw xs =>
        obtain ⟨v2, ys, m1, m2, m3, m4⟩ := stay i xs g1
        rw [z1] at m4
        cases m4
        obtain ⟨v', k4, r'⟩ := R.at_ i _ m3
        rw [m2] at k4
        cases k4
        have k1 := getMapSome.mp k1
        rw [m1] at k1
        cases k1
        exact r'
  · rintro a ⟨i, v, w, h1, h2, h3⟩
    have h1 := getMapSome.mp h1
    obtain ⟨⟨xs, hx⟩, _, rfl⟩ := bo i w v a h1 h3
    exact .inl ⟨i, _, _, getMapSome.mpr hx, h2, List.mem_singleton.mpr rfl⟩
  · intro a q
    rcases S.grow a q with z | z | z
    · exact .inl z
    · exact .inr (.inl (ent_owned z))
    · exact .inr (.inr z)
  · intro i xs h
    obtain ⟨v, ys, _, _, _, g⟩ := stay i xs (getMapSome.mp h)
    exact ⟨rfl, ys, getMapSome.mpr g⟩
  · intro i xs h
    have q := List.all_eq_true.mp ha _ (List.mem_of_getElem? (getMapSome.mp h))
    cases q
/-- a body's reading from the promise -/
theorem body_read {N : List Str} {s : DS} {vs : List V} {Q : VK} {E : XK} {n : Nat} (h : spD K n (fnD N.length s) vs H Q E) :
    tDS K (fun cls d _ H => E cls d H) s { nx := fun _ H' => Q .non H', rt := Q } (start N vs) H := by
  obtain ⟨_, F, ws, _, ha, R0, g⟩ := h
  refine ⟨F, ent N.length ws, rel_ent R0, ?_⟩
  have g : FGo K (finR ws (s (ent N.length ws))) vs ws F H Q E := g
  cases q : s (ent N.length ws) with
  | bad => rw [q] at g; exact g
  | bk e => rw [q] at g; exact g.elim
  | ct e => rw [q] at g; exact g.elim
  | err c e' =>
    rw [q] at g
    intro σ' H' F' R S
    obtain ⟨R1, S1, _, _⟩ := back_ok ha R0 S R
    exact g H' F' R1 S1
  | nx e' =>
    rw [q] at g
    intro σ' H' F' R S
    obtain ⟨R1, S1, _, _⟩ := back_ok ha R0 S R
    exact g .non H' F' R1 S1 .non trivial
  | rt w e' =>
    rw [q] at g
    intro v σ' H' F' R S V NO
    obtain ⟨R1, S1, o1, o2⟩ := back_ok ha R0 S R
    have new : (∀ xs, w ≠ .brw xs) → (∀ t, w ≠ .bt t) → (∀ i, w ≠ .loc i) → VV K F' H' (vs.map some) ((backs ws e').map some) v w ∧ Nw H H' v w := fun n1 n2 n3 => by
      obtain ⟨r, n⟩ := (vv_iff n1 n2 n3).mp V
      refine ⟨(vv_iff n1 n2 n3).mpr ⟨r, fun a ha z => n a ha (o1 a z)⟩, ?_⟩
      have go : ∀ a ∈ adr H' v w, Owned H (start N vs) (ent N.length ws) a ∨ H a = none → H a = none := fun a ha z => z.resolve_left fun z => n a ha (o2 a z)
      cases w with
      | own xs => exact fun p hp => go p (by rw [hp]; exact List.mem_singleton.mpr rfl) (NO p hp)
      | fo xs => exact fun p hp => go p (by rw [hp]; exact List.mem_singleton.mpr rfl) (NO p hp)
      | ot t => exact fun a ha => go a ha (NO a ha)
      | _ => trivial
    cases w with
    | loc i => exact g.elim
    | brw xs => exact g.elim
    | bt xs => exact g.elim
    | _ =>
      obtain ⟨g1, g2⟩ := new (fun _ => nofun) (fun _ => nofun) (fun _ => nofun)
      exact g v H' F' R1 S1 g1 g2
end
end Vf
/-! Calls; while. -/
namespace Vf
open PySem PySem.Spec L2
open PyProof.Rows hiding St
/-- what a def wishes of an exception, at any slots -/
abbrev WX0 (E : XK) : WX := fun cls d _ H => E cls d H
/-- a def of the text keeps what its body does -/
theorem fn_d {P : Program} {w : World} {K : PySem.W.Frag} {mg : Str → Option Value} {base : Heap} {x qual : Str} {params : Arguments} {body : List Stmt} {sc : Scope}
    {f : Addr} {fd : FuncData} {N ps : List Str} {k : Nat} {s : DS} (F : FunD K x qual params body sc [] [] f fd) (S : FnScope N ps sc)
    (hb : ∀ (cdv : Value) (A : Around) (outer : List Env) (s0 : Shared) (H : Hp) (E : XK), Room k (A.deeper (envOfC qual sc s0.heap.objs.size f cdv)) → Gd A →
      PSs (cxOf (L2.CX P w) P w K mg base N qual sc f cdv A outer s0 H E) body (tDS K (WX0 E) s)) :
    FnG P w K mg base (k + 1) f fd ps (spD K ps.length (fnD N.length s)) :=
  FunD.okG F S (fun vs H Q E h => h.1) fun cdv A outer s0 H vs Q E hr hg hs => ⟨_, hb cdv A outer s0 H E hr hg, body_read hs⟩
/-! ### calls -/
def isDat : Wv → Bool
  | .d _ => true
  | .exc _ => true
  | .ff _ => true
  | _ => false
def rfR (r : Rf) (k : Wv → List Wv → Rs) (e : En) : Rs := match r with
  | .ok (.loc _) _ => .bad
  | .ok w ws => k w ws
  | .err c _ => .err c e
  | .bad => .bad
/-- all arguments are handed on -/
def callV (n : Nat) (f : FD) (ws : List Wv) (e : En) : Rs := bif ws.length == n && ws.all isDat then rfR (f ws) (fun w _ => .ok w e) e else .bad
def dCall (n : Nat) (f : FD) (fs : List DE) : DE := fun e => bndL (evs fs e) fun ws e1 => callV n f ws e1
/-- the first argument's list may change -/
def callB (n : Nat) (f : FD) (ws : List Wv) (e : En) : Rs := match ws with
  | w0 :: ws => bif (w0 :: ws).length == n && ws.all isDat then (match w0 with
    | .own xs => rfR (f (.brw xs :: ws)) (fun w _ => .ok w e) e
    | .d x => rfR (f (.d x :: ws)) (fun w _ => .ok w e) e
    | .loc i => (match ownAt e i with
      | some xs => (match f (.brw xs :: ws) with
        | .ok (.loc _) _ => .bad
        | .ok w (.brw ys :: _) => (match upo e i ys with
          | some e2 => .ok w e2
          | none => .bad)
        | .err c (.brw ys :: _) => (match upo e i ys with
          | some e2 => .err c e2
          | none => .bad)
        | _ => .bad)
      | none => .bad)
    | _ => .bad) else .bad
  | [] => .bad
def dCallB (n : Nat) (f : FD) (fs : List DE) : DE := fun e => bndL (evs fs e) fun ws e1 => callB n f ws e1
section
variable {K : PySem.W.Frag} {F H F' H' : Hp} {σ σ' : St} {e e' e1 : En} {v : V} {w : Wv} {W : WX}
theorem vvs_len : ∀ {vs : List V} {ws : List Wv}, VVs K F H σ e vs ws → vs.length = ws.length
  | _, _, .nil => rfl
  | _, _, .cons _ t => congrArg (· + 1) (vvs_len t)
theorem vvs_at : ∀ {vs : List V} {ws : List Wv} {i : Nat} {w : Wv}, VVs K F H σ e vs ws → ws[i]? = some w → ∃ v, vs[i]? = some v ∧ VV K F H σ e v w
  | _, _, _, _, .nil, h => by cases h
  | _, _, 0, _, .cons a _, h => by cases h; exact ⟨_, rfl, a⟩
  | _, _, i + 1, _, .cons _ t, h => vvs_at (i := i) t h
theorem dat_arg {ws : List Wv} (h : ws.all isDat = true) : ws.all argOk = true := by
  rw [List.all_eq_true] at h ⊢
  intro w hw
  have q := h w hw
  cases w with
  | d _ => rfl
  | exc _ => rfl
  | ff _ => rfl
  | _ => cases q
theorem dat_ow {ws : List Wv} (h : ws.all isDat = true) {τ : St} {i : Nat} {a : Addr} : ¬ Ow H τ (ws.map some) i a := fun ⟨v, w, h1, _, h3⟩ => by
  have q := List.all_eq_true.mp h w (List.mem_of_getElem? (getMapSome.mp h1))
  cases w with
  | d _ => cases h3
  | exc _ => cases h3
  | ff _ => cases h3
  | _ => cases q
theorem rel_args (R : Rel K F H σ e) {vs : List V} {ws : List Wv} (hv : VVs K F H σ e vs ws) (h : ws.all isDat = true) : Rel K F H (vs.map some) (ws.map some) where
  ex := R.ex
  len := by simp [vvs_len hv]
  at_ := fun i w q => by
    have q := getMapSome.mp q
    obtain ⟨v, h1, h2⟩ := vvs_at hv q
    refine ⟨v, getMapSome.mpr h1, ?_⟩
    have z := List.all_eq_true.mp h w (List.mem_of_getElem? q)
    cases w with
    | d x => exact h2
    | exc c => exact h2
    | ff t => exact h2
    | _ => cases z
  sep := fun i j p oi => absurd oi (dat_ow h)
/-- behind a call that changed nothing of ours -/
theorem called {τ τ' : St} {ε ε' : En} (R : Rel K F H σ e) (S : Stp τ ε F H τ' ε' F' H') (hx : Ex F' H') (no : ∀ p, Owned H τ ε p → ¬ Owned H σ e p) : Rel K F' H' σ e ∧ ∀ a, Owned H' σ e a ↔ Owned H σ e a := by
  have f : ∀ p o, F p = none → H p = some o → Owned H σ e p → F' p = none ∧ H' p = some o := fun p o g1 g2 go => by
    have n : ¬ Owned H τ ε p := fun z => no p z go
    exact ⟨S.unfrozen g2 n g1, S.keep _ _ g2 n⟩
  exact ⟨rel_up R S.sub hx f, fun a => owned_up R S.sub hx f⟩
/-- .. that could change nothing -/
theorem called0 {τ τ' : St} {ε ε' : En} (R : Rel K F H σ e) (S : Stp τ ε F H τ' ε' F' H') (hx : Ex F' H') (no : ∀ p, ¬ Owned H τ ε p) : Rel K F' H' σ e ∧ Stp σ e F H σ e F' H' ∧ ∀ a, Owned H' σ e a ↔ Owned H σ e a := by
  obtain ⟨g1, g2⟩ := called R S hx fun p z => absurd z (no p)
  refine ⟨g1, ⟨S.sub, fun b o z _ => S.keep b o z (no b), fun b z => .inl ((g2 b).mp z), fun b z => ?_, fun i xs z => ⟨rfl, xs, z⟩, fun i xs z => ⟨rfl, xs, z⟩, S.there⟩, g2⟩
  rcases S.grow b z with z | z | z
  · exact .inl z
  · exact absurd z (no b)
  · exact .inr (.inr z)
/-- what a call hands back is nobody's -/
theorem ret_vv {τ : St} {ε : En} {H1 F1 : Hp} (R : Rel K F1 H1 σ e) (ow : ∀ a, Owned H' σ e' a → Owned H1 σ e a) (n3 : ∀ i, w ≠ .loc i) (V : VV K F' H' τ ε v w) (N : Nw H1 H' v w) : VV K F' H' σ e' v w := by
  have n1 : ∀ xs, w ≠ .brw xs := fun xs z => by subst z; exact V
  have n2 : ∀ xs, w ≠ .bt xs := fun xs z => by subst z; exact V
  obtain ⟨r, _⟩ := (vv_iff n1 n2 n3).mp V
  exact (vv_iff n1 n2 n3).mpr ⟨r, fun a ha z => R.notOwned ((nw_iff n1 n2).mp N a ha) (ow a z)⟩
end
section
variable {X : Cx} {W : WX} {k : Nat} {f : Addr} {fd : FuncData} {ps : List Str} {g : FD} {n : Nat} {x : Str} {p pos : Pos} {a : Expr} {as : List Expr} {fs : List DE}
theorem pd_call (G : FnG X.prog X.w X.K X.mg X.base k f fd ps (spD X.K n g)) (hr : Room k X.A) (hgd : Gd X.A) (tk : ∀ σ, PassesAt (L2.CX X.prog X.w) X σ (WE W σ))
    (hg : Gl X x) (hm : X.mg x = some (.ref f)) (hk : PySem.W.keepIn X.K (.ref f) = true) (hb : Binds X.K fd ps []) (ha : PA X (a :: as) (tDA X.K W fs)) (hdb : (x == ("__debug__" : Str)) = false := by decide)
    (he : starEach (a :: as) X.env = (false, eval a X.env) :: starEach as X.env := by rfl) (hpl : (backTo pos (starEach as X.env)).any (·.1) = false := by rfl) :
    PE X (.Call (.Name x p) (a :: as) [] pos) (tD X.K W (dCall n g fs)) := by
  refine PE.to (pe_callG (E := WE W) G hr hgd hg hm hk hb tk ha hdb he hpl) ?_
  rintro σ H Q ⟨F, e, R, h⟩
  refine ⟨F, e, R, GoL.imp (Go.bndL h) ?_⟩
  rintro vs H1 ⟨F1, e1, ws, R1, S1, V1, N1, h1⟩
  have h1 : Go X.K W (bif ws.length == n && ws.all isDat then rfR (g ws) (fun w _ => .ok w e1) e1 else .bad) σ e F H Q := h1
  cases q : (ws.length == n && ws.all isDat) with
  | false => rw [q] at h1; exact h1.elim
  | true =>
    rw [q] at h1
    have h1 : Go X.K W (rfR (g ws) (fun w _ => .ok w e1) e1) σ e F H Q := h1
    obtain ⟨q1, q2⟩ := Bool.and_eq_true_iff.mp q
    have hl : ws.length = n := by simpa using q1
    have no : ∀ p, ¬ Owned H1 (vs.map some) (ws.map some) p := fun p ⟨i, o⟩ => dat_ow q2 o
    refine ⟨by rw [vvs_len V1, hl], F1, ws, hl, dat_arg q2, rel_args R1 V1 q2, ?_⟩
    cases z : g ws with
    | bad => rw [z] at h1; exact h1
    | err c ws' =>
      rw [z] at h1
      intro H' F' R' S'
      obtain ⟨g1, g2, _⟩ := called0 R1 S' R'.ex no
      exact h1 H' F' g1 (S1.tr g2)
    | ok w ws' =>
      rw [z] at h1
      intro v H' F' R' S' V' N'
      obtain ⟨g1, g2, g3⟩ := called0 R1 S' R'.ex no
      cases w with
      | loc i => exact h1.elim
      | _ => exact h1 v H' F' g1 (S1.tr g2) (ret_vv R1 (fun a => (g3 a).mp) (fun _ => nofun) V' N') (N'.back S1.there)
/-- .. the first argument's list may change -/
theorem pd_callB' (G : FnG X.prog X.w X.K X.mg X.base k f fd ps (spD X.K n g)) (hr : Room k X.A) (hgd : Gd X.A) (tk : ∀ σ, PassesAt (L2.CX X.prog X.w) X σ (WE W σ))
    (hg : Gl X x) (hm : X.mg x = some (.ref f)) (hk : PySem.W.keepIn X.K (.ref f) = true) (hb : Binds X.K fd ps []) (ha : PA X (a :: as) (tDA X.K W fs)) (hdb : (x == ("__debug__" : Str)) = false := by decide)
    (he : starEach (a :: as) X.env = (false, eval a X.env) :: starEach as X.env := by rfl) (hpl : (backTo pos (starEach as X.env)).any (·.1) = false := by rfl) :
    PE X (.Call (.Name x p) (a :: as) [] pos) (tD X.K W (dCallB n g fs)) := by
  refine PE.to (pe_callG (E := WE W) G hr hgd hg hm hk hb tk ha hdb he hpl) ?_
  rintro σ H Q ⟨F, e, R, h⟩
  refine ⟨F, e, R, GoL.imp (Go.bndL h) ?_⟩
  rintro vs H1 ⟨F1, e1, ws, R1, S1, V1, N1, h1⟩
  cases V1 with
  | nil => exact h1.elim
  | cons V0 Vr =>
    rename_i v0 w0 vr wr
    cases N1 with
    | cons N0 Nr =>
      have h1 : Go X.K W (callB n g (w0 :: wr) e1) σ e F H Q := h1
      unfold callB at h1
      cases q : ((w0 :: wr).length == n && wr.all isDat) with
      | false => simp only [q] at h1; exact h1.elim
      | true =>
        simp only [q, cond_true] at h1
        obtain ⟨q1, q2⟩ := Bool.and_eq_true_iff.mp q
        have hl : (w0 :: wr).length = n := by simpa using q1
        have hlv : (v0 :: vr).length = n := by rw [List.length_cons, vvs_len Vr, ← hl, List.length_cons]
        -- of the arguments only the first one can be own
        have own0 : ∀ (u : Wv) (i : Nat) (a : Addr), Ow H1 ((v0 :: vr).map some) ((u :: wr).map some) i a → i = 0 ∧ a ∈ adr H1 v0 u := by
          rintro u i a ⟨v, w, h1, h2, h3⟩
          cases i with
          | zero =>
            cases h1
            cases h2
            exact ⟨rfl, h3⟩
          | succ i => exact absurd ⟨v, w, h1, h2, h3⟩ (dat_ow (τ := vr.map some) (i := i) q2)
        -- the promise's arguments
        have mkRel : ∀ (u : Wv), argOk u = true → RV X.K F1 H1 v0 u → Rel X.K F1 H1 ((v0 :: vr).map some) ((u :: wr).map some) := by
          intro u hu r
          refine ⟨R1.ex, by simp [vvs_len Vr], fun i w z => ?_, fun i j p oi oj => by rw [(own0 u i p oi).1, (own0 u j p oj).1]⟩
          cases i with
          | zero =>
            have z := getMapSome.mp z
            cases z
            exact ⟨v0, rfl, r⟩
          | succ i =>
            exact (rel_args R1 Vr q2).at_ i w z
        have mkArg : ∀ (u : Wv), argOk u = true → (u :: wr).all argOk = true := fun u hu => by
          rw [List.all_cons, hu, dat_arg q2]; rfl
        -- the frame's own things are nobody else's
        have at0 : ∀ (p0 : Addr) (xs : List PyData), v0 = .ref p0 → ∀ p, Owned H1 ((v0 :: vr).map some) ((Wv.brw xs :: wr).map some) p → p = p0 := fun p0 xs e0 p ⟨i, o⟩ => by
          have z := (own0 _ i p o).2
          rw [e0] at z
          exact List.mem_singleton.mp z
        -- data
        cases w0 with
        | d y =>
          have h1 : Go X.K W (rfR (g (.d y :: wr)) (fun w _ => .ok w e1) e1) σ e F H Q := h1
          have no : ∀ p, ¬ Owned H1 ((v0 :: vr).map some) ((Wv.d y :: wr).map some) p := fun p ⟨i, o⟩ => by
            have z := (own0 _ i p o).2
            cases z
          refine ⟨hlv, F1, .d y :: wr, hl, mkArg _ rfl, mkRel (.d y) rfl V0, ?_⟩
          cases z : g (.d y :: wr) with
          | bad => rw [z] at h1; exact h1
          | err c ws' =>
            rw [z] at h1
            intro H' F' R' S'
            obtain ⟨g1, g2, _⟩ := called0 R1 S' R'.ex no
            exact h1 H' F' g1 (S1.tr g2)
          | ok w ws' =>
            rw [z] at h1
            intro v H' F' R' S' V' N'
            obtain ⟨g1, g2, g3⟩ := called0 R1 S' R'.ex no
            cases w with
            | loc i => exact h1.elim
            | _ => exact h1 v H' F' g1 (S1.tr g2) (ret_vv R1 (fun a => (g3 a).mp) (fun _ => nofun) V' N') (N'.back S1.there)
        | own xs =>
          have h1 : Go X.K W (rfR (g (.brw xs :: wr)) (fun w _ => .ok w e1) e1) σ e F H Q := h1
          obtain ⟨⟨p0, us, rfl, a1, a2, a3⟩, no0⟩ := V0
          have np0 := no0 p0 rfl
          have hp0 : H p0 = none := N0 p0 rfl
          have at0 := at0 p0 xs rfl
          refine ⟨hlv, F1, .brw xs :: wr, hl, mkArg _ rfl, mkRel (.brw xs) rfl ⟨p0, us, rfl, a1, a2, a3⟩, ?_⟩
          have stp : ∀ {ws' : List Wv} {F' H' : Hp}, Stp ((V.ref p0 :: vr).map some) ((Wv.brw xs :: wr).map some) F1 H1 ((V.ref p0 :: vr).map some) (ws'.map some) F' H' → Ex F' H' → Rel X.K F' H' σ e1 ∧ Stp σ e F H σ e1 F' H' ∧ ∀ a, Owned H' σ e1 a ↔ Owned H1 σ e1 a := fun {ws' F' H'} S hx => by
            obtain ⟨g1, g2⟩ := called R1 S hx fun p z => by rw [at0 p z]; exact np0
            exact ⟨g1,
              { sub := S1.sub.tr S.sub
                keep := fun b o z n => S.keep b o (S1.keep b o z n) fun z2 => by
                  rw [at0 b z2, hp0] at z
                  cases z
                shr := fun a z => S1.shr a ((g2 a).mp z)
                grow := fun b z => by
                  rcases S.grow b z with z | z | z
                  · exact S1.grow b z
                  · rw [at0 b z]; exact .inr (.inr hp0)
                  · refine .inr (.inr ?_)
                    cases q : H b with
                    | none => rfl
                    | some o => exact absurd z (S1.there b (by rw [q]; exact fun z => nomatch z))
                pin := S1.pin
                pin2 := S1.pin2
                there := fun b z => S.there b (S1.there b z) }, g2⟩
          cases z : g (.brw xs :: wr) with
          | bad => rw [z] at h1; exact h1
          | err c ws' =>
            rw [z] at h1
            intro H' F' R' S'
            obtain ⟨g1, g2, _⟩ := stp S' R'.ex
            exact h1 H' F' g1 g2
          | ok w ws' =>
            rw [z] at h1
            intro v H' F' R' S' V' N'
            obtain ⟨g1, g2, g3⟩ := stp S' R'.ex
            cases w with
            | loc i => exact h1.elim
            | _ => exact h1 v H' F' g1 g2 (ret_vv R1 (fun a => (g3 a).mp) (fun _ => nofun) V' N') (N'.back S1.there)
        | loc i =>
          have hv0 : σ[i]? = some (some v0) := V0
          simp only at h1
          cases z : ownAt e1 i with
          | none => simp only [z] at h1; exact h1.elim
          | some xs =>
            simp only [z] at h1
            obtain ⟨p0, us, b1, a1, a2, a3, oi, _⟩ := own_at R1 z
            rw [hv0] at b1
            cases b1
            have at0 := at0 p0 xs rfl
            have own0' : Ow H1 σ e1 i p0 := ownAt_ow z hv0
            refine ⟨hlv, F1, .brw xs :: wr, hl, mkArg _ rfl, mkRel (.brw xs) rfl ⟨p0, us, rfl, a1, a2, a3⟩, ?_⟩
            -- behind the call
            have after : ∀ {ys : List PyData} {wr' : List Wv} {F' H' : Hp} {e2 : En}, upo e1 i ys = some e2 → Rel X.K F' H' ((V.ref p0 :: vr).map some) ((Wv.brw ys :: wr').map some) → Stp ((V.ref p0 :: vr).map some) ((Wv.brw xs :: wr).map some) F1 H1 ((V.ref p0 :: vr).map some) ((Wv.brw ys :: wr').map some) F' H' →
                Rel X.K F' H' σ e2 ∧ Stp σ e1 F1 H1 σ e2 F' H' ∧ ∀ a, Owned H' σ e2 a → a ∈ [p0] ∨ Owned H1 σ e1 a := by
              intro ys wr' F' H' e2 hu R' S'
              obtain ⟨v', g1, p1, us1, g2, g3, g4, g5⟩ := R'.at_ 0 (.brw ys) rfl
              cases g1
              cases g2
              have only : ∀ a o, H1 a = some o → a ∉ [p0] → H' a = some o := fun a o ho n => S'.keep a o ho fun z => n (by rw [at0 a z]; exact List.mem_singleton.mpr rfl)
              have fz : ∀ a, F' a ≠ none → F1 a ≠ none ∨ a ∈ [p0] ∨ H1 a = none := fun a z => by
                rcases S'.grow a z with z | z | z
                · exact .inl z
                · rw [at0 a z]; exact .inr (.inl (List.mem_singleton.mpr rfl))
                · exact .inr (.inr z)
              rcases upo_shape hu with ⟨zs, q, rfl⟩ | ⟨zs, q, rfl⟩
              · exact rel_chg3 R1 q hv0 S'.sub R'.ex ⟨p0, us1, rfl, g3, g4, g5⟩ only fz (fun a z => .inl z) S'.there (fun _ z => by cases z) (fun _ z => by cases z)
              · exact rel_chg3 R1 q hv0 S'.sub R'.ex ⟨p0, us1, rfl, g3, g4, g5⟩ only fz (fun a z => .inl z) S'.there (fun _ _ => ⟨ys, rfl⟩) (fun _ z => by cases z)
            have run : Go X.K W (match g (.brw xs :: wr) with
              | .ok (.loc _) _ => .bad
              | .ok w (.brw ys :: _) => (match upo e1 i ys with
                | some e2 => .ok w e2
                | none => .bad)
              | .err c (.brw ys :: _) => (match upo e1 i ys with
                | some e2 => .err c e2
                | none => .bad)
              | _ => .bad) σ e F H Q := h1
            revert run
            split
            · intro run
              exact run.elim
            · rename_i w ys wr' nl zg
              intro run
              rw [zg]
              cases zu : upo e1 i ys with
              | none => rw [zu] at run; exact run.elim
              | some e2 =>
                rw [zu] at run
                intro v H' F' R' S' V' N'
                obtain ⟨R2, S2, O2⟩ := after zu R' S'
                have n1 : ∀ xs, w ≠ .brw xs := fun xs z => by subst z; exact V'
                have n2 : ∀ xs, w ≠ .bt xs := fun xs z => by subst z; exact V'
                have n3 : ∀ i, w ≠ .loc i := fun i z => nl i z
                obtain ⟨r, _⟩ := (vv_iff n1 n2 n3).mp V'
                refine run v H' F' R2 (S1.tr S2) ((vv_iff n1 n2 n3).mpr ⟨r, fun a ha z => ?_⟩) (N'.back S1.there)
                have h0 := (nw_iff n1 n2).mp N' a ha
                rcases O2 a z with z | z
                · rw [List.mem_singleton.mp z, a2] at h0
                  cases h0
                · exact R1.notOwned h0 z
            · rename_i c ys wr' zg
              intro run
              rw [zg]
              cases zu : upo e1 i ys with
              | none => rw [zu] at run; exact run.elim
              | some e2 =>
                rw [zu] at run
                intro H' F' R' S'
                obtain ⟨R2, S2, _⟩ := after zu R' S'
                exact run H' F' R2 (S1.tr S2)
            · intro run
              exact run.elim
        | _ => exact h1.elim
end
end Vf
/-! The operations on data. -/
namespace Vf
open PySem PySem.Spec L2
open PyProof.Rows hiding St
section
variable {K : PySem.W.Frag} {F H : Hp} {v : V} {X : Cx}
theorem dh_str {z : Str} (h : DH K F H v (.str z)) : v = .str z := dp_str h
theorem dh_non (h : DH K F H v .none) : v = .non := dp_non h
theorem dh_list {xs : List PyData} (h : DH K F H v (.list xs)) : ∃ a vs, v = V.ref a ∧ SqL K H a vs ∧ DpAll K F vs xs := h
theorem dh_tup (x : Ex F H) {xs : List PyData} (h : DH K F H v (.tuple xs)) : ∃ a vs, v = V.ref a ∧ SqT K H a vs ∧ DpAll K F vs xs := by
  obtain ⟨a, vs, e, hs, da⟩ := dp_tup_ref h
  exact ⟨a, vs, e, sqt_ex x hs, da⟩
theorem new_dat {z : PyData} (h : Dp K F v z) : New K F H v (.d z) H := .inl ⟨rfl, h⟩
def dInt (i : Int) : Option Wv := some (.d (.int i))
def dBool (b : Bool) : Option Wv := some (.d (.bool b))
/-! ### + -/
def opAdd : PyData → PyData → Option Wv
  | .int i, .int j => some (.d (.int (i + j)))
  | .list xs, .list ys => if xs.length + ys.length ≤ 1000000 then some (.own (xs ++ ys)) else none
  | .tuple xs, .tuple ys => if xs.length + ys.length ≤ 1000000 then some (.d (.tuple (xs ++ ys))) else none
  | .str x, .str y => if x.length + y.length ≤ 1000000 then some (.d (.str (x ++ y))) else none
  | _, _ => none
/-- two lists that may be read -/
def rCatL (K : PySem.W.Frag) : R2 := fun x y H Q => ∃ a b xs ys, x = V.ref a ∧ y = V.ref b ∧ SqL K H a xs ∧ SqL K H b ys ∧ xs.length + ys.length ≤ sizeLine ∧ ∀ p, H p = none → Q (.ref p) (upd H p (.lst (xs ++ ys)))
theorem op_catL : OpR X (binaryOp .Add) (rCatL X.K) := by
  rintro pins s σ H x y v u Q I rx ry ⟨a, b, xs, ys, rfl, rfl, ha, hb, hz, q⟩
  cases rx
  cases ry
  obtain ⟨its, r1, p1, _⟩ := I.list ha
  obtain ⟨its2, r2, p2, _⟩ := I.list hb
  obtain ⟨o1, n1, g1, c1, d1, k1⟩ := p1
  obtain ⟨o2, n2, g2, c2, d2, k2⟩ := p2
  obtain ⟨oc1, od1, dt1, sl1⟩ := o1
  obtain ⟨oc2, od2, dt2, sl2⟩ := o2
  simp only at c1 k1 c2 k2
  subst c1 k1 c2 k2
  have hl : its.length + its2.length ≤ sizeLine := by
    rw [← r1.length, ← r2.length]; exact hz
  refine concat_meets ⟨_, g1, rfl⟩ ⟨_, g2, rfl⟩ noFill_list_add seq_list_add PySem.F.slot_list_add PySem.F.entry_list_add
    (PySem.F.args_list_add_2 _ _) (list_addW a b its.toArray its2.toArray n1 n2 od1 od2 sl1 sl2 (by simpa using hl)) ⟨g1, g2, ?_⟩
  have e : its.toArray ++ its2.toArray = (its ++ its2).toArray := by simp
  rw [e]
  exact ⟨.ref _, _, I.lnew (t' := s.toks) (r1.append r2) (by rw [List.length_append]; exact hz), rfl, q _ I.fresh⟩
abbrev rAddI : R2 := rI0 fun i j => .int (i + j)
abbrev rAddS' : R2 := fun x y H Q => ∃ i j, x = .str i ∧ y = .str j ∧ i.length + j.length ≤ sizeLine ∧ Q (.str (i ++ j)) H
def rPlus (K : PySem.W.Frag) : R2 := fun x y H Q => rAddI x y H Q ∨ rCatL K x y H Q ∨ rCatA K x y H Q ∨ rAddS' x y H Q
theorem op_plus : OpR X (binaryOp .Add) (rPlus X.K) := op_add.or (op_catL.or (op_catA.or op_add_str))
theorem hr_add : Op2 K opAdd (rPlus K) := by
  intro F H v1 v2 x y w Q hx d1 d2 q k
  cases x with
  | int i =>
    cases y with
    | int j =>
      cases q
      exact .inl ⟨i, j, dh_int d1, dh_int d2, k _ _ (new_dat (.int _))⟩
    | _ => cases q
  | list xs =>
    cases y with
    | list ys =>
      have q : (if xs.length + ys.length ≤ 1000000 then some (Wv.own (xs ++ ys)) else none) = some w := q
      by_cases hl : xs.length + ys.length ≤ 1000000
      · rw [if_pos hl] at q
        cases q
        obtain ⟨a, us, rfl, s1, g1⟩ := d1
        obtain ⟨b, ws, rfl, s2, g2⟩ := d2
        exact .inr (.inl ⟨a, b, us, ws, rfl, rfl, s1, s2, le_line (by rw [dpa_len g1, dpa_len g2]; exact hl), fun p hp => k _ _ ⟨p, _, rfl, hp, rfl, dpa_app g1 g2⟩⟩)
      · rw [if_neg hl] at q; cases q
    | _ => cases q
  | tuple xs =>
    cases y with
    | tuple ys =>
      have q : (if xs.length + ys.length ≤ 1000000 then some (Wv.d (.tuple (xs ++ ys))) else none) = some w := q
      by_cases hl : xs.length + ys.length ≤ 1000000
      · rw [if_pos hl] at q
        cases q
        obtain ⟨a, us, rfl, s1, g1⟩ := dh_tup hx d1
        obtain ⟨b, ws, rfl, s2, g2⟩ := dh_tup hx d2
        refine .inr (.inr (.inl ⟨a, b, us, ws, rfl, rfl, s1, s2, le_line (by rw [dpa_len g1, dpa_len g2]; exact hl), fun e => ?_, fun _ e => ?_, fun _ _ p hp => k _ _ (.inr ⟨p, _, _, rfl, hp, rfl, rfl, dpa_app g1 g2⟩)⟩))
        · subst e
          cases g1
          exact k _ _ (new_dat d2)
        · subst e
          cases g2
          rw [List.append_nil] at k
          exact k _ _ (new_dat d1)
      · rw [if_neg hl] at q; cases q
    | _ => cases q
  | str x =>
    cases y with
    | str y =>
      have q : (if x.length + y.length ≤ 1000000 then some (Wv.d (.str (x ++ y))) else none) = some w := q
      by_cases hl : x.length + y.length ≤ 1000000
      · rw [if_pos hl] at q
        cases q
        exact .inr (.inr (.inr ⟨x, y, dh_str d1, dh_str d2, le_line hl, k _ _ (new_dat (.str _))⟩))
      · rw [if_neg hl] at q; cases q
    | _ => cases q
  | _ => cases q
/-! ### other arithmetic -/
def opSub : PyData → PyData → Option Wv
  | .int i, .int j => some (.d (.int (i - j)))
  | _, _ => none
theorem hr_sub : Op2 K opSub (rI0 fun i j => .int (i - j)) := by
  intro F H v1 v2 x y w Q hx d1 d2 q k
  cases x with
  | int i =>
    cases y with
    | int j =>
      cases q
      exact ⟨i, j, dh_int d1, dh_int d2, k _ _ (new_dat (.int _))⟩
    | _ => cases q
  | _ => cases q
/-- products: less than a million bits together; a list as often as a number says -/
def opMul : PyData → PyData → Option Wv
  | .int i, .int j => if i.natAbs.log2 + j.natAbs.log2 < 1000000 then some (.d (.int (i * j))) else none
  | .list xs, .int k => if (-(2 ^ 63) ≤ k ∧ k < 2 ^ 63) ∧ xs.length * k.toNat ≤ 1000000 then some (.own (List.replicate k.toNat xs).flatten) else none
  | _, _ => none
def rRepL (K : PySem.W.Frag) : R2 := fun x y H Q => ∃ l k xs, x = V.ref l ∧ y = .int k ∧ SqL K H l xs ∧ -(2 ^ 63) ≤ k ∧ k < 2 ^ 63 ∧ xs.length * k.toNat ≤ sizeLine ∧
  ∀ p, H p = none → Q (.ref p) (upd H p (.lst (List.replicate k.toNat xs).flatten))
/-- the list that was just made -/
def rTimes (K : PySem.W.Frag) : R2 := fun x y H Q => rI CMulW (fun i j => .int (i * j)) x y H Q ∨ rRep x y H Q
theorem op_times : OpR X (binaryOp .Mult) (rTimes X.K) := op_mulW.or op_rep
theorem dpa_rep {vs : List V} {xs : List PyData} (h : DpAll K F vs xs) : ∀ n : Nat, DpAll K F (List.replicate n vs).flatten (List.replicate n xs).flatten
  | 0 => .nil
  | n + 1 => by
    rw [List.replicate_succ, List.replicate_succ, List.flatten_cons, List.flatten_cons]
    exact dpa_app h (dpa_rep h n)
/-- ints alone -/
def opMulI : PyData → PyData → Option Wv
  | .int i, .int j => if i.natAbs.log2 + j.natAbs.log2 < 1000000 then some (.d (.int (i * j))) else none
  | _, _ => none
theorem hr_mulI : Op2 K opMulI (rI CMulW fun i j => .int (i * j)) := by
  intro F H v1 v2 x y w Q hx d1 d2 q k
  cases x with
  | int i =>
    cases y with
    | int j =>
      have q : (if i.natAbs.log2 + j.natAbs.log2 < 1000000 then some (Wv.d (.int (i * j))) else none) = some w := q
      by_cases hl : i.natAbs.log2 + j.natAbs.log2 < 1000000
      · rw [if_pos hl] at q
        cases q
        exact ⟨i, j, dh_int d1, dh_int d2, hl, k _ _ (new_dat (.int _))⟩
      · rw [if_neg hl] at q; cases q
    | _ => cases q
  | _ => cases q
def opMod : PyData → PyData → Option Wv
  | .int i, .int j => if 0 < j then some (.d (.int (i % j))) else none
  | _, _ => none
theorem hr_mod : Op2 K opMod (rI (fun _ j => 0 < j) fun i j => .int (i % j)) := by
  intro F H v1 v2 x y w Q hx d1 d2 q k
  cases x with
  | int i =>
    cases y with
    | int j =>
      have q : (if 0 < j then some (Wv.d (.int (i % j))) else none) = some w := q
      by_cases hl : 0 < j
      · rw [if_pos hl] at q
        cases q
        exact ⟨i, j, dh_int d1, dh_int d2, hl, k _ _ (new_dat (.int _))⟩
      · rw [if_neg hl] at q; cases q
    | _ => cases q
  | _ => cases q
def opDiv : PyData → PyData → Option Wv
  | .int i, .int j => if 0 < j ∧ j < 1073741824 then some (.d (.int (i / j))) else none
  | _, _ => none
theorem hr_div : Op2 K opDiv (rI CDiv fun i j => .int (i / j)) := by
  intro F H v1 v2 x y w Q hx d1 d2 q k
  cases x with
  | int i =>
    cases y with
    | int j =>
      have q : (if 0 < j ∧ j < 1073741824 then some (Wv.d (.int (i / j))) else none) = some w := q
      by_cases hl : 0 < j ∧ j < 1073741824
      · rw [if_pos hl] at q
        cases q
        exact ⟨i, j, dh_int d1, dh_int d2, hl, k _ _ (new_dat (.int _))⟩
      · rw [if_neg hl] at q; cases q
    | _ => cases q
  | _ => cases q
def opPow : PyData → PyData → Option Wv
  | .int i, .int j => if 0 ≤ j ∧ j ≤ 1000000 ∧ i.natAbs < 2 ^ 64 then some (.d (.int (i ^ j.toNat))) else none
  | _, _ => none
theorem hr_pow : Op2 K opPow (rI CPow fun i j => .int (i ^ j.toNat)) := by
  intro F H v1 v2 x y w Q hx d1 d2 q k
  cases x with
  | int i =>
    cases y with
    | int j =>
      have q : (if 0 ≤ j ∧ j ≤ 1000000 ∧ i.natAbs < 2 ^ 64 then some (Wv.d (.int (i ^ j.toNat))) else none) = some w := q
      by_cases hl : 0 ≤ j ∧ j ≤ 1000000 ∧ i.natAbs < 2 ^ 64
      · rw [if_pos hl] at q
        cases q
        exact ⟨i, j, dh_int d1, dh_int d2, hl, k _ _ (new_dat (.int _))⟩
      · rw [if_neg hl] at q; cases q
    | _ => cases q
  | _ => cases q
def opNeg : PyData → Option Wv
  | .int i => some (.d (.int (-i)))
  | _ => none
theorem hr_neg : Op1 K opNeg (rU fun i => .int (-i)) := by
  intro F H v1 x w Q hx d1 q k
  cases x with
  | int i =>
    cases q
    exact ⟨i, dh_int d1, k _ _ (new_dat (.int _))⟩
  | _ => cases q
/-! ### comparisons -/
def opCmpI (p : Int → Int → Bool) : PyData → PyData → Option Wv
  | .int i, .int j => some (.d (.bool (p i j)))
  | _, _ => none
theorem hr_cmpI {p : Int → Int → Bool} : Op2 K (opCmpI p) (rI0 fun i j => .bl (p i j)) := by
  intro F H v1 v2 x y w Q hx d1 d2 q k
  cases x with
  | int i =>
    cases y with
    | int j =>
      cases q
      exact ⟨i, j, dh_int d1, dh_int d2, k _ _ (new_dat (.bl _))⟩
    | _ => cases q
  | _ => cases q
abbrev opLt := opCmpI fun i j => decide (i < j)
abbrev opLe := opCmpI fun i j => decide (i ≤ j)
abbrev opGt := opCmpI fun i j => decide (j < i)
abbrev opGe := opCmpI fun i j => decide (j ≤ i)
/-- two texts are compared whatever they hold; else data of no great depth -/
def eqD (x y : PyData) : Option Bool := match x, y with
  | .str a, .str b => some (decide (a = b))
  | x, y => if SeqAt.shaped x && SeqAt.shaped y then some (PyData.eqv x y) else none
def opEq (x y : PyData) : Option Wv := (eqD x y).map fun b => .d (.bool b)
def opNe (x y : PyData) : Option Wv := (eqD x y).map fun b => .d (.bool !b)
theorem eqD_cases {x y : PyData} {b : Bool} (h : eqD x y = some b) : (∃ s t, x = .str s ∧ y = .str t ∧ b = decide (s = t)) ∨ (SeqAt.shaped x = true ∧ SeqAt.shaped y = true ∧ b = PyData.eqv x y) := by
  unfold eqD at h
  split at h
  · cases h; exact .inl ⟨_, _, rfl, rfl, rfl⟩
  · split at h
    · rename_i hs
      cases h
      obtain ⟨h1, h2⟩ := Bool.and_eq_true_iff.mp hs
      exact .inr ⟨h1, h2, rfl⟩
    · cases h
def rEqA (K : PySem.W.Frag) : R2 := fun x y H Q => rEq x y H Q ∨ rEqD K x y H Q
def rNeA (K : PySem.W.Frag) : R2 := fun x y H Q => rNe x y H Q ∨ rNeD K x y H Q
theorem op_eqA (hu : X.A.units + 64 < cLine) : OpR X (compareOp .Eq) (rEqA X.K) := op_eq.or (op_eqD hu)
theorem op_neA (hu : X.A.units + 64 < cLine) : OpR X (compareOp .NotEq) (rNeA X.K) := op_ne.or (op_neD hu)
theorem dec_strs (s t : Str) : decide (V.str s = V.str t) = decide (s = t) := by
  by_cases h : s = t
  · subst h; simp
  · rw [decide_eq_false h, decide_eq_false fun z => h (V.str.inj z)]
theorem hr_eq : Op2 K opEq (rEqA K) := by
  intro F H v1 v2 x y w Q hx d1 d2 q k
  obtain ⟨b, hb, rfl⟩ := Option.map_eq_some_iff.mp q
  rcases eqD_cases hb with ⟨s, t, rfl, rfl, rfl⟩ | ⟨s1, s2, rfl⟩
  · refine .inl ?_
    rw [dh_str d1, dh_str d2]
    refine ⟨rfl, ?_⟩
    rw [dec_strs]
    exact k _ _ (new_dat (.bl _))
  · exact .inr ⟨x, y, d1.dp hx, d2.dp hx, s1, s2, k _ _ (new_dat (.bl _))⟩
theorem hr_ne : Op2 K opNe (rNeA K) := by
  intro F H v1 v2 x y w Q hx d1 d2 q k
  obtain ⟨b, hb, rfl⟩ := Option.map_eq_some_iff.mp q
  rcases eqD_cases hb with ⟨s, t, rfl, rfl, rfl⟩ | ⟨s1, s2, rfl⟩
  · refine .inl ?_
    rw [dh_str d1, dh_str d2]
    refine ⟨rfl, ?_⟩
    rw [dec_strs]
    exact k _ _ (new_dat (.bl _))
  · exact .inr ⟨x, y, d1.dp hx, d2.dp hx, s1, s2, k _ _ (new_dat (.bl _))⟩
/-- x is None; True, False are asked by the same sign -/
def isNone : PyData → Bool
  | .none => true
  | _ => false
def opIs : PyData → PyData → Option Wv
  | x, .none => some (.d (.bool (isNone x)))
  | _, _ => none
def opIsNot : PyData → PyData → Option Wv
  | x, .none => some (.d (.bool (!isNone x)))
  | _, _ => none
theorem dh_isNone {x : PyData} (h : DH K F H v x) : decide (v = .non) = isNone x := by
  cases x with
  | none => rw [dh_non h]; rfl
  | bool b => cases (show Dp K F v (.bool b) from h); rfl
  | int i => cases (show Dp K F v (.int i) from h); rfl
  | str i => cases (show Dp K F v (.str i) from h); rfl
  | list i => obtain ⟨a, _, rfl, _⟩ := h; rfl
  | tuple i => obtain ⟨a, _, rfl, _⟩ := dp_tup_ref h; rfl
  | dict i => cases (show Dp K F v (.dict i) from h)
theorem hr_is : Op2 K opIs (fun x y H Q => y = .non ∧ Q (.bl (decide (x = .non))) H) := by
  intro F H v1 v2 x y w Q hx d1 d2 q k
  cases y with
  | none =>
    cases q
    refine ⟨dh_non d2, ?_⟩
    rw [dh_isNone d1]
    exact k _ _ (new_dat (.bl _))
  | _ => cases q
theorem hr_isnot : Op2 K opIsNot (fun x y H Q => y = .non ∧ Q (.bl (!decide (x = .non))) H) := by
  intro F H v1 v2 x y w Q hx d1 d2 q k
  cases y with
  | none =>
    cases q
    refine ⟨dh_non d2, ?_⟩
    rw [dh_isNone d1]
    exact k _ _ (new_dat (.bl _))
  | _ => cases q
/-! ### in -/
def inD (x y : PyData) : Option Bool := (items y).bind fun ys => if SeqAt.shaped x && SeqAt.shaped y then some (ys.any fun z => PyData.eqv z x) else none
def opIn (x y : PyData) : Option Wv := (inD x y).map fun b => .d (.bool b)
def opNotIn (x y : PyData) : Option Wv := (inD x y).map fun b => .d (.bool !b)
def rInA (K : PySem.W.Frag) (neg : Bool) : R2 := fun x y H Q => ∃ d c ds, Dp K H x d ∧ Dp K H y c ∧ (c = .list ds ∨ c = .tuple ds) ∧ SeqAt.shaped d = true ∧ SeqAt.shaped c = true ∧ Q (.bl (bif neg then !(ds.any fun z => PyData.eqv z d) else ds.any fun z => PyData.eqv z d)) H
theorem op_inA (hu : X.A.units + 65 < cLine) : OpR X (compareOp .In) (rInA X.K false) := by
  rintro pins s σ H x y v u Q I rx ry ⟨d, c, ds, dx, dy, hc, s1, s2, q⟩
  obtain ⟨as, r1⟩ := Dp.reads I d x v dx rx
  obtain ⟨bs, r2⟩ := Dp.reads I c y u dy ry
  rcases hc with rfl | rfl
  · exact SeqAt.in_list_reads r2 r1 (SeqAt.canLay_of_shaped s2) (SeqAt.canLay_of_shaped s1) (room_in_shaped s1 hu) ⟨.bl _, H, I, rfl, q⟩
  · exact SeqAt.in_tuple_reads r2 r1 (SeqAt.canLay_of_shaped s2) (SeqAt.canLay_of_shaped s1) (room_in_shaped s1 hu) ⟨.bl _, H, I, rfl, q⟩
theorem op_notInA (hu : X.A.units + 65 < cLine) : OpR X (compareOp .NotIn) (rInA X.K true) := by
  rintro pins s σ H x y v u Q I rx ry ⟨d, c, ds, dx, dy, hc, s1, s2, q⟩
  obtain ⟨as, r1⟩ := Dp.reads I d x v dx rx
  obtain ⟨bs, r2⟩ := Dp.reads I c y u dy ry
  rcases hc with rfl | rfl
  · exact SeqAt.notIn_list_reads r2 r1 (SeqAt.canLay_of_shaped s2) (SeqAt.canLay_of_shaped s1) (room_in_shaped s1 hu) ⟨.bl _, H, I, rfl, q⟩
  · exact SeqAt.notIn_tuple_reads r2 r1 (SeqAt.canLay_of_shaped s2) (SeqAt.canLay_of_shaped s1) (room_in_shaped s1 hu) ⟨.bl _, H, I, rfl, q⟩
theorem inD_cases {x y : PyData} {b : Bool} (h : inD x y = some b) : ∃ ds, (y = .list ds ∨ y = .tuple ds) ∧ SeqAt.shaped x = true ∧ SeqAt.shaped y = true ∧ b = ds.any fun z => PyData.eqv z x := by
  obtain ⟨ys, q, h⟩ := Option.bind_eq_some_iff.mp h
  split at h
  · rename_i hs
    cases h
    obtain ⟨h1, h2⟩ := Bool.and_eq_true_iff.mp hs
    refine ⟨ys, ?_, h1, h2, rfl⟩
    cases y with
    | list zs => cases q; exact .inl rfl
    | tuple zs => cases q; exact .inr rfl
    | _ => cases q
  · cases h
theorem hr_in : Op2 K opIn (rInA K false) := by
  intro F H v1 v2 x y w Q hx d1 d2 q k
  obtain ⟨b, hb, rfl⟩ := Option.map_eq_some_iff.mp q
  obtain ⟨ds, hc, s1, s2, rfl⟩ := inD_cases hb
  exact ⟨x, y, ds, d1.dp hx, d2.dp hx, hc, s1, s2, k _ _ (new_dat (.bl _))⟩
theorem hr_notIn : Op2 K opNotIn (rInA K true) := by
  intro F H v1 v2 x y w Q hx d1 d2 q k
  obtain ⟨b, hb, rfl⟩ := Option.map_eq_some_iff.mp q
  obtain ⟨ds, hc, s1, s2, rfl⟩ := inD_cases hb
  exact ⟨x, y, ds, d1.dp hx, d2.dp hx, hc, s1, s2, k _ _ (new_dat (.bl _))⟩
/-! ### xs[i] -/
def opIx : PyData → PyData → Option Wv
  | .list xs, .int i => (atI xs i).map .d
  | .tuple xs, .int i => (atI xs i).map .d
  | .str z, .int i => if z.length ≤ 1000000 then (atI z.cps.toList i).map fun c => .d (.str ⟨#[c]⟩) else none
  | _, _ => none
theorem dpa_atI {vs : List V} {xs : List PyData} {i : Int} {x : PyData} (h : DpAll K F vs xs) (q : atI xs i = some x) : ∃ v, atI vs i = some v ∧ Dp K F v x := by
  obtain ⟨j, q1, q2⟩ := Option.bind_eq_some_iff.mp q
  obtain ⟨v, q3, d⟩ := dpa_get' h q2
  refine ⟨v, ?_, d⟩
  unfold atI
  rw [dpa_len h, q1]
  exact q3
theorem hr_ix : Op2 K opIx (rIx K) := by
  intro F H v1 v2 x y w Q hx d1 d2 q k
  cases x with
  | list xs =>
    cases y with
    | int i =>
      obtain ⟨z, hz, rfl⟩ := Option.map_eq_some_iff.mp q
      obtain ⟨a, us, rfl, s1, g1⟩ := d1
      obtain ⟨u, hu, du⟩ := dpa_atI g1 hz
      exact .inl ⟨a, us, i, u, rfl, dh_int d2, s1, hu, k _ _ (new_dat du)⟩
    | _ => cases q
  | tuple xs =>
    cases y with
    | int i =>
      obtain ⟨z, hz, rfl⟩ := Option.map_eq_some_iff.mp q
      obtain ⟨a, us, rfl, s1, g1⟩ := dh_tup hx d1
      obtain ⟨u, hu, du⟩ := dpa_atI g1 hz
      exact .inr (.inl ⟨a, us, i, u, rfl, dh_int d2, s1, hu, k _ _ (new_dat du)⟩)
    | _ => cases q
  | str z =>
    cases y with
    | int i =>
      have q : (if z.length ≤ 1000000 then (atI z.cps.toList i).map fun c => Wv.d (.str ⟨#[c]⟩) else none) = some w := q
      by_cases hl : z.length ≤ 1000000
      · rw [if_pos hl] at q
        obtain ⟨c, hc, rfl⟩ := Option.map_eq_some_iff.mp q
        exact .inr (.inr ⟨z, i, c, dh_str d1, dh_int d2, le_line hl, hc, k _ _ (new_dat (.str _))⟩)
      · rw [if_neg hl] at q; cases q
    | _ => cases q
  | _ => cases q
end
end Vf
/-! Built-ins. -/
namespace Vf
open PySem PySem.Spec L2
open PyProof.Rows hiding St
section
variable {K : PySem.W.Frag} {F H : Hp} {v : V} {X : Cx}
theorem dhs1 {vs : List V} {x : PyData} (h : DHs K F H vs [x]) : ∃ v, vs = [v] ∧ DH K F H v x := by
  cases h with
  | cons a b => cases b; exact ⟨_, rfl, a⟩
theorem dhs2 {vs : List V} {x y : PyData} (h : DHs K F H vs [x, y]) : ∃ v u, vs = [v, u] ∧ DH K F H v x ∧ DH K F H u y := by
  cases h with
  | cons a b =>
    cases b with
    | cons c d => cases d; exact ⟨_, _, rfl, a, c⟩
/-! ### len -/
def opLen : List PyData → Option Wv
  | [.list xs] => some (.d (.int xs.length))
  | [.tuple xs] => some (.d (.int xs.length))
  | [.str z] => if z.length ≤ 1000000 then some (.d (.int z.length)) else none
  | _ => none
def rLenA (K : PySem.W.Frag) : List V → Hp → VK → Prop := fun xs H Q => (∃ p ys, xs = [V.ref p] ∧ (SqL K H p ys ∨ SqT K H p ys) ∧ Q (.int ys.length) H) ∨ (∃ z, xs = [V.str z] ∧ z.length ≤ sizeLine ∧ Q (.int z.length) H)
theorem cr_lenA : CallR X (.builtin "len") (rLenA X.K) := call_len_seq.or call_len_str
theorem hr_len : OpL K opLen (rLenA K) := by
  intro F H vs xs w Q hx d q k
  unfold opLen at q
  split at q
  · cases q
    obtain ⟨v, rfl, d1⟩ := dhs1 d
    obtain ⟨a, us, rfl, s, g⟩ := dh_list d1
    refine .inl ⟨a, us, rfl, .inl s, ?_⟩
    rw [dpa_len g]
    exact k _ _ (new_dat (.int _))
  · cases q
    obtain ⟨v, rfl, d1⟩ := dhs1 d
    obtain ⟨a, us, rfl, s, g⟩ := dh_tup hx d1
    refine .inl ⟨a, us, rfl, .inr s, ?_⟩
    rw [dpa_len g]
    exact k _ _ (new_dat (.int _))
  · rename_i z
    by_cases hl : z.length ≤ 1000000
    · rw [if_pos hl] at q
      cases q
      obtain ⟨v, rfl, d1⟩ := dhs1 d
      rw [dh_str d1]
      exact .inr ⟨z, rfl, le_line hl, k _ _ (new_dat (.int _))⟩
    · rw [if_neg hl] at q; cases q
  · cases q
/-! ### int, max, min -/
def opInt : List PyData → Option Wv
  | [.int i] => some (.d (.int i))
  | [.bool b] => some (.d (.int (if b then 1 else 0)))
  | _ => none
theorem hr_int : OpL K opInt (fun xs H Q => (∃ i, xs = [V.int i] ∧ Q (.int i) H) ∨ ∃ k, xs = [V.bl k] ∧ Q (.int (if k then 1 else 0)) H) := by
  intro F H vs xs w Q hx d q k
  unfold opInt at q
  split at q
  · cases q
    obtain ⟨v, rfl, d1⟩ := dhs1 d
    rw [dh_int d1]
    exact .inl ⟨_, rfl, k _ _ (new_dat (.int _))⟩
  · cases q
    obtain ⟨v, rfl, d1⟩ := dhs1 d
    rw [dh_bl d1]
    exact .inr ⟨_, rfl, k _ _ (new_dat (.int _))⟩
  · cases q
def opMax : List PyData → Option Wv
  | [.int i, .int j] => some (.d (.int (if j > i then j else i)))
  | _ => none
def opMin : List PyData → Option Wv
  | [.int i, .int j] => some (.d (.int (if j < i then j else i)))
  | _ => none
theorem hr_max : OpL K opMax (fun xs H Q => ∃ i j, xs = [V.int i, .int j] ∧ Q (.int (if j > i then j else i)) H) := by
  intro F H vs xs w Q hx d q k
  unfold opMax at q
  split at q
  · cases q
    obtain ⟨v, u, rfl, d1, d2⟩ := dhs2 d
    rw [dh_int d1, dh_int d2]
    exact ⟨_, _, rfl, k _ _ (new_dat (.int _))⟩
  · cases q
theorem hr_min : OpL K opMin (fun xs H Q => ∃ i j, xs = [V.int i, .int j] ∧ Q (.int (if j < i then j else i)) H) := by
  intro F H vs xs w Q hx d q k
  unfold opMin at q
  split at q
  · cases q
    obtain ⟨v, u, rfl, d1, d2⟩ := dhs2 d
    rw [dh_int d1, dh_int d2]
    exact ⟨_, _, rfl, k _ _ (new_dat (.int _))⟩
  · cases q
/-! ### list, tuple -/
def opList : List PyData → Option Wv
  | [.list xs] => some (.own xs)
  | [.tuple xs] => some (.own xs)
  | _ => none
theorem hr_list : OpL K opList (fun xs H Q => ∃ p ys, xs = [V.ref p] ∧ (SqL K H p ys ∨ SqT K H p ys) ∧ ∀ l, H l = none → Q (.ref l) (upd H l (.lst ys))) := by
  intro F H vs xs w Q hx d q k
  unfold opList at q
  split at q
  · cases q
    obtain ⟨v, rfl, d1⟩ := dhs1 d
    obtain ⟨a, us, rfl, s, g⟩ := dh_list d1
    exact ⟨a, us, rfl, .inl s, fun l hl => k _ _ ⟨l, us, rfl, hl, rfl, g⟩⟩
  · cases q
    obtain ⟨v, rfl, d1⟩ := dhs1 d
    obtain ⟨a, us, rfl, s, g⟩ := dh_tup hx d1
    exact ⟨a, us, rfl, .inr s, fun l hl => k _ _ ⟨l, us, rfl, hl, rfl, g⟩⟩
  · cases q
def opTuple : List PyData → Option Wv
  | [.list xs] => some (.d (.tuple xs))
  | [.tuple xs] => some (.d (.tuple xs))
  | _ => none
theorem hr_tuple : OpL K opTuple (fun xs H Q => ∃ p ys, xs = [V.ref p] ∧ ((SqL K H p ys ∧ ∀ l, H l = none → Q (.ref l) (upd H l (.tup ys))) ∨ (SqT K H p ys ∧ Q (.ref p) H))) := by
  intro F H vs xs w Q hx d q k
  unfold opTuple at q
  split at q
  · cases q
    obtain ⟨v, rfl, d1⟩ := dhs1 d
    obtain ⟨a, us, rfl, s, g⟩ := dh_list d1
    exact ⟨a, us, rfl, .inl ⟨s, fun l hl => k _ _ (.inr ⟨l, us, _, rfl, hl, rfl, rfl, g⟩)⟩⟩
  · cases q
    obtain ⟨v, rfl, d1⟩ := dhs1 d
    obtain ⟨a, us, e, s, g⟩ := dh_tup hx d1
    rw [e]
    refine ⟨a, us, rfl, .inr ⟨s, ?_⟩⟩
    rw [← e]
    exact k _ _ (.inl ⟨rfl, d1⟩)
  · cases q
/-! ### all, any -/
def bools : List PyData → Option (List Bool)
  | [] => some []
  | .bool b :: r => (bools r).map (b :: ·)
  | _ :: _ => none
theorem bools_ok : ∀ {us : List V} {xs : List PyData} {bs : List Bool}, DpAll K F us xs → bools xs = some bs → us = bs.map V.bl
  | _, _, _, .nil, q => by cases q; rfl
  | _, x :: _, _, .cons d r, q => by
    cases x with
    | bool b =>
      obtain ⟨cs, h, rfl⟩ := Option.map_eq_some_iff.mp q
      rw [dp_bl d, bools_ok r h]
      rfl
    | _ => cases q
def opAll : List PyData → Option Wv
  | [.list xs] => (bools xs).map fun bs => .d (.bool (bs.all id))
  | _ => none
def opAny : List PyData → Option Wv
  | [.list xs] => (bools xs).map fun bs => .d (.bool (bs.any id))
  | _ => none
theorem hr_all : OpL K opAll (rAll K) := by
  intro F H vs xs w Q hx d q k
  unfold opAll at q
  split at q
  · obtain ⟨bs, hb, rfl⟩ := Option.map_eq_some_iff.mp q
    obtain ⟨v, rfl, d1⟩ := dhs1 d
    obtain ⟨a, us, rfl, s, g⟩ := dh_list d1
    rw [bools_ok g hb] at s
    exact ⟨a, bs, rfl, s, k _ _ (new_dat (.bl _))⟩
  · cases q
theorem hr_any : OpL K opAny (rAny K) := by
  intro F H vs xs w Q hx d q k
  unfold opAny at q
  split at q
  · obtain ⟨bs, hb, rfl⟩ := Option.map_eq_some_iff.mp q
    obtain ⟨v, rfl, d1⟩ := dhs1 d
    obtain ⟨a, us, rfl, s, g⟩ := dh_list d1
    rw [bools_ok g hb] at s
    exact ⟨a, bs, rfl, s, k _ _ (new_dat (.bl _))⟩
  · cases q
/-! ### repr -/
def rpOk (x : PyData) : Bool := x.showable && SeqAt.shaped x && (!x.hasDict && decide (x.shown.length ≤ 1000000))
def opRepr : List PyData → Option Wv
  | [x] => if rpOk x then some (.d (.str x.shown)) else none
  | _ => none
def rReprA (K : PySem.W.Frag) : List V → Hp → VK → Prop := fun xs H Q => ∃ v x, xs = [v] ∧ Dp K H v x ∧ rpOk x = true ∧ Q (.str x.shown) H
theorem rp_parts {x : PyData} (h : rpOk x = true) : x.showable = true ∧ SeqAt.shaped x = true ∧ x.hasDict = false ∧ x.shown.length ≤ 1000000 := by
  obtain ⟨h1, h2⟩ := Bool.and_eq_true_iff.mp h
  obtain ⟨h3, h4⟩ := Bool.and_eq_true_iff.mp h1
  obtain ⟨h5, h6⟩ := Bool.and_eq_true_iff.mp h2
  exact ⟨h3, h4, by simpa using h5, of_decide_eq_true h6⟩
theorem cr_repr (hg : X.A.guards = some []) (hu : X.A.units + 65 < cLine) : CallR X (.builtin "repr") (rReprA X.K) := by
  intro pins s σ H xs us Q I r h
  obtain ⟨v, x, rfl, d, hp, q⟩ := h
  obtain ⟨u, rfl, rx⟩ := vals1 r
  obtain ⟨as, rd⟩ := Dp.reads I x v u d rx
  obtain ⟨p1, p2, p3, p4⟩ := rp_parts hp
  have dep := SeqAt.depth_of_shaped p2
  have ref : ∀ a, u = Value.ref a → wpAny (model X.prog X.w) X.A (call (.builtin "repr") [u]) (EP X pins σ Q) X.xe s := fun a e => by
    subst e
    exact repr_of_reads' rd p1 (fun z => by rw [p3] at z; cases z) hg (by omega) (fun _ _ e => e) (fun h' t tk kp => ⟨.str x.shown, H, I.kept kp, ⟨t, rfl⟩, q⟩) (le_line p4)
  cases x with
  | none =>
    cases d
    cases rx
    exact PySem.P.repr_of_none ⟨.str _, H, I.tok _, ⟨_, rfl⟩, q⟩
  | bool b =>
    cases d
    cases rx
    exact PySem.P.repr_of_bool ⟨.str _, H, I.tok _, ⟨_, rfl⟩, q⟩
  | int i =>
    cases d
    obtain ⟨t, rfl⟩ := rx
    exact PySem.P.repr_of_int (of_decide_eq_true p1) ⟨.str _, H, I.tok _, ⟨_, rfl⟩, q⟩
  | str z =>
    cases d
    obtain ⟨t, rfl⟩ := rx
    exact PySem.P.repr_of_str ⟨.str _, H, I.tok _, ⟨_, rfl⟩, q⟩ (le_line p4)
  | list zs =>
    obtain ⟨a, us, rfl, _⟩ := dp_list_ref d
    exact ref a rx
  | tuple zs =>
    obtain ⟨a, us, rfl, _⟩ := dp_tup_ref d
    exact ref a rx
  | dict zs => cases d
theorem hr_repr : OpL K opRepr (rReprA K) := by
  intro F H vs xs w Q hx d q k
  unfold opRepr at q
  split at q
  · rename_i x
    by_cases hp : rpOk x = true
    · rw [if_pos hp] at q
      cases q
      obtain ⟨v, rfl, d1⟩ := dhs1 d
      exact ⟨v, x, rfl, d1.dp hx, hp, k _ _ (new_dat (.str _))⟩
    · rw [if_neg hp] at q; cases q
  · cases q
end
end Vf
/-! isinstance. -/
namespace Vf
open PySem PySem.Spec L2
open PyProof.Rows hiding St
def tyNm : PyData → String
  | .none => "NoneType"
  | .bool _ => "bool"
  | .int _ => "int"
  | .str _ => "str"
  | .list _ => "list"
  | .tuple _ => "tuple"
  | .dict _ => "dict"
section
variable {K : PySem.W.Frag} {F H : Hp} {v : V} {X : Cx}
theorem ty_seqL {a : Addr} {us : List V} (h : SqL K H a us) : TyX K H (.ref a) (.type "list") := by
  rcases h with (h | ⟨o, h⟩) | ⟨o, its, n, h, hc, _⟩
  · exact .base (.lst h)
  · exact .base (.frz h)
  · exact .kList h hc
theorem ty_seqT {a : Addr} {us : List V} (h : SqT K H a us) : TyX K H (.ref a) (.type "tuple") := by
  rcases h with (h | ⟨o, h⟩) | ⟨o, its, n, h, hc, _⟩
  · exact .base (.tup h)
  · exact .fTuple h
  · exact .kTuple h hc
theorem ty_dh (hx : Ex F H) {x : PyData} (h : DH K F H v x) : TyX K H v (.type (tyNm x)) := by
  cases x with
  | none => rw [dh_non h]; exact .base .non
  | bool b => rw [dh_bl h]; exact .base (.bl b)
  | int i => rw [dh_int h]; exact .base (.int i)
  | str z => rw [dh_str h]; exact .base (.str z)
  | list zs => obtain ⟨a, us, rfl, s, _⟩ := dh_list h; exact ty_seqL s
  | tuple zs => obtain ⟨a, us, rfl, s, _⟩ := dh_tup hx h; exact ty_seqT s
  | dict zs => cases (show Dp K F v (.dict zs) from h)
/-- isinstance(e, c), e a caught exception of a class of the text -/
def rIsX (K : PySem.W.Frag) : List V → Hp → VK → Prop := fun xs H Q => ∃ (a D : Addr) (c : V) (u : Value) (b : Bool), xs = [.ref a, c] ∧ ClsV c u ∧ H a = some (ExH (.ref D) a) ∧ ExcC K D ∧ PySem.W.kitOne K (.ref D) u = some b ∧ Q (.bl b) H
theorem cr_isX : CallR X (.builtin "isinstance") (rIsX X.K) := by
  intro pins s σ H xs us Q I r h
  obtain ⟨a, D, c, u, b, rfl, kc, ea, C, e, q⟩ := h
  obtain ⟨u1, u2, rfl, r1, r2⟩ := vals2 r
  have e2 := kc.eq r2
  subst e2
  cases r1
  obtain ⟨oe, vs, hget, hz, hv⟩ := (show ∃ (oe : Obj) (vs : Array Value), s.heap.get? a = some oe ∧ Zc (.ref D) none oe ∧ oe.data = .fields vs from (show ObjOk X.prog X.w H s.heap a (ExH (.ref D) a) from I.hok a _ ea).1)
  have J : PySem.W.InstAt s.heap a oe D none := by
    obtain ⟨oc, od, oda, osl⟩ := oe
    obtain ⟨h1, h2⟩ := hz
    dsimp only at h1 h2 hv
    subst h1 h2 hv
    exact ⟨hget, rfl, rfl, trivial⟩
  exact PySem.W.kia_one (PySem.W.handS_kitx_exc C.hg C.hk C.hs C.hd C.ha C.hn C.ht C.hm) I.kIn J e (fun z => nomatch z) fun tk => ⟨.bl b, H, I.tok tk, rfl, q⟩
def rIsiA (K : PySem.W.Frag) : List V → Hp → VK → Prop := fun xs H Q => rIsi K xs H Q ∨ rIsX K xs H Q
theorem cr_isA : CallR X (.builtin "isinstance") (rIsiA X.K) := call_isi.or cr_isX
def isw (op : PyData → Option Bool) (ox : Str → Option Bool) (e : En) : Wv → Option Bool
  | .exc c => ox c
  | w => (rs e w).bind op
def optB (o : Option Bool) (e : En) : Rs := match o with
  | some b => .ok (.d (.bool b)) e
  | none => .bad
def dIsi (op : PyData → Option Bool) (ox : Str → Option Bool) (f : DE) : DE := fun e => bnd (f e) fun w e1 => optB (isw op ox e1 w) e1
/-- what is known of a class: of which built-in types' values it is told, of which exceptions -/
structure ClsK (K : PySem.W.Frag) (u : Value) (op : PyData → Option Bool) (ox : Str → Option Bool) : Prop where
  op : ∀ x b, op x = some b → PySem.W.kitOne K (.type (tyNm x)) u = some b
  ox : ∀ n b, ox n = some b → ExcC K (He.ga K n) ∧ PySem.W.kitOne K (cl K n) u = some b
theorem pd_isi {W : WX} {a b : Expr} {f : DE} {c : V} {u : Value} {op : PyData → Option Bool} {ox : Str → Option Bool} {p pos : Pos} (hg : Gl X "isinstance") (hm : X.mg "isinstance" = none) (kc : ClsV c u) (ck : ClsK X.K u op ox) (ha : PE X a (tD X.K W f)) (hb : PE X b (tC c))
    (h2 : starEach [a, b] X.env = (false, eval a X.env) :: starEach [b] X.env := by rfl) (h1 : starEach [b] X.env = (false, eval b X.env) :: starEach [] X.env := by rfl) (hpl : (backTo pos (starEach [b] X.env)).any (·.1) = false := by rfl) :
    PE X (.Call (.Name "isinstance" p) [a, b] [] pos) (tD X.K W (dIsi op ox f)) := by
  refine PE.to (pe_callB cr_isA hg hm PyProof.Rows.boot_isinstance (pa_cons ha (pa_cons hb pa_nil h1) h2) (by decide) (by decide) h2 hpl) ?_
  rintro σ H Q ⟨F, e, R, h⟩
  refine ⟨F, e, R, Go.imp (Go.bnd h) ?_⟩
  rintro v H1 ⟨F1, e1, w1, R1, S1, V1, N1, h1⟩
  show rIsiA X.K [v, c] H1 Q
  have fin : ∀ r, isw op ox e1 w1 = some r → Q (.bl r) H1 := fun r q => by
    have h1 : Go X.K W (optB (isw op ox e1 w1) e1) σ e F H Q := h1
    rw [q] at h1
    exact h1 _ _ F1 R1 S1 (.bl r) trivial
  have go : ∀ r x, isw op ox e1 w1 = some r → rs e1 w1 = some x → op x = some r → rIsiA X.K [v, c] H1 Q := fun r x q q1 q2 =>
    .inl ⟨v, c, _, u, r, rfl, kc, ty_dh R1.ex (rs_dh R1 V1 q1), ck.op _ _ q2, fin r q⟩
  cases q : isw op ox e1 w1 with
  | none =>
    have h1 : Go X.K W (optB (isw op ox e1 w1) e1) σ e F H Q := h1
    rw [q] at h1
    exact h1.elim
  | some r =>
    cases w1 with
    | exc n =>
      obtain ⟨a, rfl, ea⟩ := V1
      obtain ⟨C, k⟩ := ck.ox n r q
      exact .inr ⟨a, _, c, u, r, rfl, kc, R1.ex _ _ ea, C, k, fin r q⟩
    | d x =>
      obtain ⟨x, q1, q2⟩ := Option.bind_eq_some_iff.mp (show (rs e1 (.d x)).bind op = some r from q)
      exact go r x q q1 q2
    | own x =>
      obtain ⟨x, q1, q2⟩ := Option.bind_eq_some_iff.mp (show (rs e1 (.own x)).bind op = some r from q)
      exact go r x q q1 q2
    | brw x =>
      obtain ⟨x, q1, q2⟩ := Option.bind_eq_some_iff.mp (show (rs e1 (.brw x)).bind op = some r from q)
      exact go r x q q1 q2
    | loc x =>
      obtain ⟨x, q1, q2⟩ := Option.bind_eq_some_iff.mp (show (rs e1 (.loc x)).bind op = some r from q)
      exact go r x q q1 q2
    | ot x => cases (show (none : Option Bool) = some r from q)
    | bt x => cases (show (none : Option Bool) = some r from q)
    | fo x => cases (show (none : Option Bool) = some r from q)
    | ff x => cases (show (none : Option Bool) = some r from q)
/-! ### built-in types -/
def noX : Str → Option Bool := fun _ => none
def isTy (T : String) : PyData → Option Bool := fun x => kitB (tyNm x) T
theorem clsk_ty {T : String} : ClsK K (.type T) (isTy T) noX := ⟨fun x b h => kit_ty h, fun n b h => by cases h⟩
/-- .. told without the table -/
def isTB (b : Bool) : PyData → Option Bool := fun x => match x with
  | .none => some false
  | _ => some b
def tyA (n b i s l t : Bool) : PyData → Option Bool
  | .none => some n
  | .bool _ => some b
  | .int _ => some i
  | .str _ => some s
  | .list _ => some l
  | .tuple _ => some t
  | .dict _ => none
theorem clsk_a {T : String} {n b i s l t : Bool} (h : kitB "NoneType" T = some n ∧ kitB "bool" T = some b ∧ kitB "int" T = some i ∧ kitB "str" T = some s ∧ kitB "list" T = some l ∧ kitB "tuple" T = some t) : ClsK K (.type T) (tyA n b i s l t) noX :=
  ⟨fun x r q => (by
    obtain ⟨h1, h2, h3, h4, h5, h6⟩ := h
    cases x with
    | none => cases q; exact kit_ty h1
    | bool b => cases q; exact kit_ty h2
    | int b => cases q; exact kit_ty h3
    | str b => cases q; exact kit_ty h4
    | list b => cases q; exact kit_ty h5
    | tuple b => cases q; exact kit_ty h6
    | dict b => cases q), fun n b h => by cases h⟩
abbrev aList := tyA false false false false true false
abbrev aTuple := tyA false false false false false true
abbrev aStr := tyA false false false true false false
abbrev aInt := tyA false true true false false false
abbrev aBool := tyA false true false false false false
theorem ck_list : ClsK K (.type "list") aList noX := clsk_a (by decide +kernel)
theorem ck_tuple : ClsK K (.type "tuple") aTuple noX := clsk_a (by decide +kernel)
theorem ck_str : ClsK K (.type "str") aStr noX := clsk_a (by decide +kernel)
theorem ck_int : ClsK K (.type "int") aInt noX := clsk_a (by decide +kernel)
theorem ck_bool : ClsK K (.type "bool") aBool noX := clsk_a (by decide +kernel)
end
end Vf
/-! len(set(..)) of several texts. -/
namespace Vf
open PySem PySem.Spec
open PyProof.Rows hiding St
/-- the texts met, each once -/
def addD (L : List Str) (x : Str) : List Str := if x ∈ L then L else x :: L
def setD (xs : List Str) : List Str := xs.foldl addD []
theorem addD_len {L : List Str} {x : Str} : (addD L x).length ≤ L.length + 1 := by
  unfold addD
  split
  · exact Nat.le_succ _
  · exact Nat.le_refl _
theorem setD_next {xs : List Str} {i : Nat} (h : i < xs.length) : setD (xs.take (i + 1)) = addD (setD (xs.take i)) (xs.getD i Str.empty) := by
  unfold setD
  rw [List.take_add_one, List.foldl_append, List.getElem?_eq_getElem h, List.getD_eq_getElem?_getD, List.getElem?_eq_getElem h]
  rfl
theorem fold_len : ∀ (xs L : List Str), (xs.foldl addD L).length ≤ L.length + xs.length
  | [], L => Nat.le_refl _
  | x :: xs, L => by
    have h1 := fold_len xs (addD L x)
    have h2 := addD_len (L := L) (x := x)
    rw [List.foldl_cons, List.length_cons]
    omega
theorem setD_len (xs : List Str) : (setD xs).length ≤ xs.length := by
  have h := fold_len xs []
  unfold setD
  simpa using h
/-- the set at S holds just these -/
def HasD (prog : Program) (w : World) (h : Heap) (S : Addr) (L : List Str) : Prop := h.SetOf (strKind prog w) S (fun z => decide (z ∈ L)) L.length
theorem HasD.kept {prog : Program} {w : World} {h g : Heap} {S : Addr} {L : List Str} (q : HasD prog w h S L) (k : ∀ o, h.get? S = some o → g.get? S = some o) : HasD prog w g S L := by
  obtain ⟨o, es, ep, tb, e, r⟩ := q
  exact ⟨o, es, ep, tb, k o e, r⟩
theorem str_at : ∀ {us : List Value} {xs : List Str}, StrsAre us xs → ∀ (i : Nat) (v : Value), us[i]? = some v → ∃ t, v = .str (xs.getD i Str.empty) t
  | _, _, .nil, i, v, h => by cases h
  | _, _, .cons n t _, 0, _, h => ⟨t, (Option.some.inj h).symm⟩
  | _, _, .cons n t r, i + 1, v, h => str_at r i v h
section
variable {prog : Program} {w : World} {A : Around}
section
variable {R : Result → Shared → Prop} {J : Addr} {fp wr : List Addr} {G : Array GenState → Array GenState → Prop} {n : Nat} {P : Nat → Value → Prop} {T : Nat → Shared → Prop}
/-- all that comes goes into the set -/
theorem into_set (k : WalksS prog w A.in1 J fp wr G n P T) (S : Addr) (nS : S ∉ fp) (xs : List Str) (len : xs.length = n) (few : n < 4000) (val : ∀ i v, P i v → ∃ t, v = .str (xs.getD i Str.empty) t) :
    ∀ (r i : Nat) (s : Shared), i + r = n → T i s → HasD prog w s.heap S (setD (xs.take i)) → (∀ s2, Moved (S :: wr) G s s2 → HasD prog w s2.heap S (setD xs) → R (.ok (.ret .none)) s2) →
      codeAny (model prog w) A (.builtin "set.update.loop" ⟨[.ref S, .ref J], []⟩) R s := by
  have away : S ∉ wr := fun z => nS (k.sub _ z)
  have wide : ∀ b ∈ wr, b ∈ S :: wr := fun b z => List.mem_cons_of_mem _ z
  intro r
  induction r with
  | zero =>
    intro i s hi st has goal
    have hi : i = n := by omega
    rw [hi] at st has
    refine codeAny_builtin F.entry_set_update_loop ?_
    rw [Around.under_plainId (id := "set.update.loop") F.plain_set_update_loop _]
    refine wpAny_bind (k.done s _ _ st fun s2 mv => wpAny_pure (goal s2 (mv.mono wide) ?_))
    rw [← len, List.take_length] at has
    exact has.kept fun o e => mv.heap S o away e
  | succ r ih =>
    intro i s hi st has goal
    have lt : i < n := by omega
    refine codeAny_builtin F.entry_set_update_loop ?_
    rw [Around.under_plainId (id := "set.update.loop") F.plain_set_update_loop _]
    refine wpAny_bind (k.item i s _ _ lt st fun v s2 pv st2 mv => ?_)
    obtain ⟨t, rfl⟩ := val i v pv
    have has2 := has.kept fun o e => mv.heap S o away e
    refine wpAny_bind (wpAny_holding (wpAny_holding (wpAny_bind ((strKind prog w).pyHash (k := xs.getD i Str.empty) (strKind_is _ _ _ _) ?_))))
    have room : (setD (xs.take i)).length + 1 < scanBound := by
      have h1 := setD_len (xs.take i)
      have h2 : (xs.take i).length ≤ xs.length := List.length_take_le' ..
      show _ < 4096
      omega
    refine wpAny_setAddHashed_of (knd := strKind prog w) (s := { s2 with toks := s2.toks + 1 }) (strKind_is _ _ _ _) rfl has2 room fun g same new => ?_
    have has3 : HasD prog w g S (setD (xs.take (i + 1))) := by
      rw [setD_next (by omega)]
      refine SetOf_congr new (fun z => ?_) ?_
      · unfold addD
        by_cases m : xs.getD i Str.empty ∈ setD (xs.take i)
        · rw [if_pos m]
          by_cases e : z = xs.getD i Str.empty
          · rw [e, decide_eq_true m]; rfl
          · rw [decide_eq_false e, Bool.or_false]
        · rw [if_neg m]
          by_cases e : z = xs.getD i Str.empty
          · rw [e, decide_eq_true (rfl : xs.getD i Str.empty = _), Bool.or_true]
            exact (decide_eq_true List.mem_cons_self).symm
          · rw [decide_eq_false e, Bool.or_false]
            exact decide_eq_decide.mpr ⟨fun q => List.mem_cons_of_mem _ q, fun q => (List.mem_cons.mp q).resolve_left e⟩
      · unfold addD
        by_cases m : xs.getD i Str.empty ∈ setD (xs.take i)
        · rw [if_pos m, if_pos (decide_eq_true m)]
        · rw [if_neg m, if_neg (by simpa using m), List.length_cons]
    have off : ∀ b, b ∈ fp → g.get? b = s2.heap.get? b := fun b hb => same.2 b fun z => nS (by rw [← z]; exact hb)
    refine wpAny_pure ⟨plainId_quiet F.plain_set_update_loop _, ih (i + 1) _ (by omega) (k.frame _ s2 _ _ st2 (Nat.le_succ _) fun b hb o e => by rw [off b hb]; exact e) has3 fun s3 mv3 has4 => goal s3 (Moved.trans k.gtrans ((mv.mono wide).then_heap (Nat.le_succ _) fun b o hb e => ?_) mv3) has4⟩
    rw [same.2 b fun z => hb (by rw [z]; exact List.mem_cons_self)]
    exact e
end
section
variable {E : Value → Shared → Prop} {s : Shared}
/-- a new set with its order not yet drawn -/
abbrev bare (b : Bool) : Obj := { cls := .type "set", dict := none, data := .set #[] 0 (.fresh 0 0 b) }
theorem call_setT {a : Addr} {its : Array Value} {xs : List Str} {Q : Value → Shared → Prop} (calm : A.handled = none) (at_ : s.heap.IsTuple a its) (all : StrsAre its.toList xs) (few : xs.length < 4000)
    (goal : ∀ (g : Heap) (k : Nat), HasD prog w g s.heap.objs.size (setD xs) → (∀ b o, b < s.heap.objs.size → s.heap.get? b = some o → g.get? b = some o) → Q (.ref s.heap.objs.size) { s with heap := g, toks := k }) :
    wpAny (model prog w) A (call (.type "set") [.ref a]) Q E s := by
  obtain ⟨hd, tl, order⟩ := F.called_set.mro
  have made_ := F.called_set.made; have sub_ := F.called_set.sub; have kind1 := F.called_set.notType; have kind2 := F.called_set.canCreate; have args1 := F.typeCall_set_1 (.ref a)
  refine wpAny_call (codeAny_of_tree (wpAny_pure ⟨Code.quiet_builtin _ (by decide +kernel), codeAny_builtin F.entry_type_call ?_⟩))
  rw [Around.under_plain (weight_type_call_type "set" [.ref a] []) rfl]
  repeat (any_goals (first | assumption | wp_step))
  refine codeAny_mono (code_set_new_1 (.ref a) (E := E) (Q₁ := fun v s1 => ∃ b : Bool, v = .ref s.heap.objs.size ∧ s1 = { s with heap := s.heap.push (bare b) }) fun b => ⟨b, rfl, rfl⟩) fun r s1 hr => ?_
  cases r with
  | error e => exact hr
  | ok fl =>
    cases fl with
    | ret v =>
      obtain ⟨b, rfl, rfl⟩ := hr
      have new : (s.heap.push (bare b)).get? s.heap.objs.size = some (bare b) := Heap.get?_push_size _ rfl
      have ty : Shared.TypeIs { s with heap := s.heap.push (bare b) } (.ref s.heap.objs.size) "set" := ⟨_, new, rfl⟩
      have look := F.called_set.init.lookup; have bound := F.called_set.init.bind (.ref s.heap.objs.size)
      repeat (any_goals (first | assumption | wp_step))
      refine codeAny_mono (codeAny_call_builtin (R := wants (fun r s2 => r = .none ∧ ∃ g k, s2 = { s with heap := g, toks := k } ∧ HasD prog w g s.heap.objs.size (setD xs) ∧ ∀ b o, b < s.heap.objs.size → s.heap.get? b = some o → g.get? b = some o) E)
        F.called_set.init.plain F.entry_set_init (check_set_init_1 ty ?_)) fun r2 s2 hr2 => ?_
      · obtain ⟨⟨oc, od, oda, osl⟩, there, c1, n1, d1⟩ := at_
        simp only at c1 d1
        subst c1 d1
        have there1 : (s.heap.push (bare b)).get? a = some { cls := .type "tuple", dict := od, data := .seq its n1, slots := osl } := Heap.get?_push_of_some _ there
        have tup1 : (s.heap.push (bare b)).IsTuple a its := ⟨_, there1, rfl, n1, rfl⟩
        have is1 := F.sub_tuple_set; have is2 := F.sub_tuple_frozenset; have is3 : (Value.type "tuple" == Value.type "dict") = false := by decide
        unfold Builtin.«set.__init__» noKeywords Builtin.Frozenset.updateFrom
        generalize eI : pyIter = It
        wp_walk
        subst eI
        refine wpAny_pyIter_tuple tup1 (wpAny_bind (wpAny_runValue ?_))
        have low : a < s.heap.objs.size := Heap.lt_size there
        have n2 : a ≠ (s.heap.push (bare b)).objs.size := by rw [Heap.size_push]; exact Nat.ne_of_lt (Nat.lt_succ_of_lt low)
        have n3 : s.heap.objs.size ∉ [(s.heap.push (bare b)).objs.size, a] := by
          rw [Heap.size_push]
          intro z
          rcases List.mem_cons.mp z with z | z
          · exact absurd z (Nat.ne_of_lt (Nat.lt_succ_self _))
          · exact absurd (List.mem_singleton.mp z) (Nat.ne_of_gt low)
        have size : xs.length = its.size := by rw [← StrsAre.len_eq all, Array.length_toList]
        refine into_set ((Walks.tuple (show A.in1.in1.in1.handled = none by simp [calm]) _ a n2 its).toS) s.heap.objs.size n3 xs size (by omega) (fun i v hv => str_at all i v (by rw [Array.getElem?_toList]; exact hv)) its.size 0 _ (Nat.zero_add _)
          ⟨⟨_, Heap.get?_push_size _ rfl, rfl, rfl⟩, tup1.push _⟩ ?first ?last
        case first =>
          have still : ((s.heap.push (bare b)).push { cls := .type "tuple_iterator", data := .fields #[.ref a, .int 0 0] }).get? s.heap.objs.size = some (bare b) := Heap.get?_push_of_some _ new
          exact SetOf_congr ((setObjOf_fresh (knd := strKind prog w) b).setOf still (by unfold scanBound; omega)) (fun _ => rfl) rfl
        case last =>
          rintro ⟨g, gs, dr, k, os⟩ mv has
          obtain rfl : gs = s.gens := mv.gens
          obtain rfl : dr = s.drawn := mv.drawn
          obtain rfl : os = s.os := mv.os
          refine wpAny_pure (wpAny_pure ⟨rfl, g, k, rfl, has, fun b1 o hb e => ?_⟩)
          refine mv.heap b1 o (fun z => ?_) (Heap.get?_push_of_some _ (Heap.get?_push_of_some _ e))
          rcases List.mem_cons.mp z with z | z
          · exact absurd z (Nat.ne_of_lt hb)
          · rw [List.mem_singleton.mp z, Heap.size_push] at hb
            exact absurd hb (by omega)
      · cases r2 with
        | error e => exact hr2
        | ok fl2 =>
          cases fl2 with
          | ret v =>
            obtain ⟨rfl, g, k, rfl, has, kept⟩ := hr2
            repeat (any_goals (first | assumption | wp_step))
            exact goal _ _ has kept
          | _ => exact hr2.elim
    | _ => exact hr.elim
end
end
end Vf
/-! len(set(..)) as data; list * int; count, index of bools. -/
namespace Vf
open PySem PySem.Spec L2
open PyProof.Rows hiding St
def txs : List PyData → Option (List Str)
  | [] => some []
  | .str b :: r => (txs r).map (b :: ·)
  | _ :: _ => none
section
variable {K : PySem.W.Frag} {F H : Hp} {v : V} {X : Cx} {W : WX}
theorem strs_ok : ∀ {us : List V} {xs : List PyData} {bs : List Str}, DpAll K F us xs → txs xs = some bs → us = bs.map V.str
  | _, _, _, .nil, q => by cases q; rfl
  | _, x :: _, _, .cons d r, q => by
    cases x with
    | str b =>
      obtain ⟨cs, h, rfl⟩ := Option.map_eq_some_iff.mp q
      rw [dp_str d, strs_ok r h]
      rfl
    | _ => cases q
def opLenSet : PyData → Option Wv
  | .tuple xs => (txs xs).bind fun ss => if ss.length < 4000 then some (.d (.int (setD ss).length)) else none
  | _ => none
def rLenSetT (K : PySem.W.Frag) : V → Hp → VK → Prop := fun x H Q => ∃ l, ∃ xs : List Str, x = .ref l ∧ SqT K H l (xs.map V.str) ∧ xs.length < 4000 ∧ Q (.int (setD xs).length) H
theorem strs_are : ∀ {ys : List Str} {us : List Value}, Vals (ys.map V.str) us → StrsAre us ys
  | [], _, .nil => .nil
  | _ :: _, _, .cons ⟨k, e⟩ t => by subst e; exact .cons _ k (strs_are t)
theorem pe_lenSetT {a : Expr} {ta : TE} {p p2 q pos : Pos} (calm : X.calm = true) (g1 : Gl X "len") (m1 : X.mg "len" = none) (g2 : Gl X "set") (m2 : X.mg "set" = none) (ha : PE X a ta)
    (na : starEach [a] X.env = (false, eval a X.env) :: starEach [] X.env := by rfl) : PE X (.Call (.Name "len" p) [.Call (.Name "set" p2) [a] [] q] [] pos) (tUn (rLenSetT X.K) ta) := by
  constructor
  intro pins s σ H Q I h
  refine wpAny_Call_Name_kw (ld_blt I g1 m1 boot_len (callWith_builtin1 (args_cons ?_ rfl) rfl rfl))
  refine wpAny_Call_Name_kw (ld_blt I g2 m2 boot_set (callWith_type1 (args_cons (thn (ha.run pins s σ H _ I h) ?_) na) na rfl))
  rintro v s1 ⟨x, H1, I1, r1, l, xs, rfl, sq, few, q1⟩
  cases r1
  obtain ⟨its, rv, pl, _⟩ := I1.tuple sq
  refine args_nil (call_setT (I1.ok.hd calm) pl (strs_are (by simpa using rv)) few fun g k has kept => args_nil ?_)
  obtain ⟨o, es, ep, t, ho, hex, hd, _, _, _, hf, hn⟩ := has
  have I2 : Inv X pins σ H1 { s1 with heap := g, toks := k } := I1.kept fun b o e => kept b o (Heap.lt_size e) e
  have small : (setD xs).length < 4000 := Nat.lt_of_le_of_lt (setD_len xs) few
  exact call_len_set ho hex hd hf (by rw [hn]; omega) ⟨.int (setD xs).length, H1, I2.tok _, ⟨_, by rw [hn]⟩, q1⟩
theorem hr_lenSet : Op1 K opLenSet (rLenSetT K) := by
  intro F H v1 x w Q hx d q k
  cases x with
  | tuple xs =>
    obtain ⟨ss, h1, q⟩ := Option.bind_eq_some_iff.mp q
    by_cases few : ss.length < 4000
    · rw [if_pos few] at q
      cases q
      obtain ⟨a, us, rfl, s, g⟩ := dh_tup hx d
      rw [strs_ok g h1] at s
      exact ⟨a, ss, rfl, s, few, k _ _ (new_dat (.int _))⟩
    · rw [if_neg few] at q; cases q
  | _ => cases q
theorem pd_lenSet {a : Expr} {f : DE} {p p2 q pos : Pos} (calm : X.calm = true) (g1 : Gl X "len") (m1 : X.mg "len" = none) (g2 : Gl X "set") (m2 : X.mg "set" = none) (ha : PE X a (tD X.K W f))
    (na : starEach [a] X.env = (false, eval a X.env) :: starEach [] X.env := by rfl) : PE X (.Call (.Name "len" p) [.Call (.Name "set" p2) [a] [] q] [] pos) (tD X.K W (dU1 opLenSet f)) :=
  PE.to (pe_lenSetT calm g1 m1 g2 m2 ha na) (u1 hr_lenSet)
end
end Vf
/-! The law itself. -/
namespace Vf
open PySem PySem.Spec L2
open PyProof.Rows hiding St
section
variable {P : Program} {w : World} {K : PySem.W.Frag} {mg mb : Str → Option Value} {k : Nat} {fa a : Addr} {fd : FuncData} {x : Str} {s1 : Shared} {vs : List Value} {ns : List Int}
/-- the law's promise, once and for all scripts -/
abbrev LawD (g : FD) : Prop := ∀ ns : List Int, ns.length ≤ 63 → ∃ ws, g [.d (.list (ns.map PyData.int))] = .ok (.d (.bool true)) ws
theorem dpa_ints {F : Hp} : ∀ ns : List Int, DpAll K F (ns.map V.int) (ns.map PyData.int)
  | [] => .nil
  | n :: ns => .cons (.int n) (dpa_ints ns)
theorem sp_start {g : FD} (law : LawD g) {H : Hp} (few : ns.length ≤ 63) (sq : SqL K H a (ns.map V.int)) : spD K 1 g [.ref a] H (fun v _ => v = .bl true) (fun _ _ _ => False) := by
  obtain ⟨ws, e⟩ := law ns few
  refine ⟨rfl, H, [.d (.list (ns.map PyData.int))], rfl, rfl, ⟨Ex.rfl' H, rfl, fun i w h => ?_, fun i j p oi => ?_⟩, ?_⟩
  · cases i with
    | zero =>
      cases h
      exact ⟨.ref a, rfl, .lst sq (dpa_ints ns)⟩
    | succ i => cases h
  · exact absurd oi (dat_ow (ws := [.d _]) rfl)
  · rw [e]
    intro v H' F' _ _ V' _
    exact dp_bl V'
/-- called by nobody but the claim -/
theorem call_law {g : FD} (law : LawD g) (kin : K.In s1.heap) (glob : s1.heap.Ns mainGlobals mg) (blt : s1.heap.Ns builtinsNs mb) (boot : ∀ x : Str, x ≠ "__name__" → mb x = bootBuiltins x) (free : s1.heap.NoLimit) (calm : s1.gens = #[])
    (script : s1.heap.get? a = some { cls := .type "list", data := .seq vs.toArray }) (itv : IntsAre vs ns) (few : ns.length ≤ 63) (room : Room k callerA)
    (G : ∀ base : Heap, K.In base → base.Ns mainGlobals mg → FnG P w K mg base k fa fd [x] (spD K 1 g)) (bind : ∀ (s : Shared) (u : Value), BindsTo s fd ⟨[u], []⟩ [(x, u)]) :
    codeAny (model P w) callerA (.call (.ref fa) ⟨[.ref a], []⟩) (fun r s2 => r = .ok (.ret (.bool true)) ∧ OldK s1.heap s2.heap ∧ s2.os = s1.os ∧ AllBare s2.gens) s1 := by
  have vals := vals_ints itv
  have long : vs.length = ns.length := itv.length
  have line := sizeLine_eq
  -- the part that is told: the script, or nothing
  have from_ : ∀ H : Hp, (∀ b u, H b = some u → b = a ∧ K.lookup a = none ∧ ∃ o, u = .frz o (.lst (ns.map V.int))) → SqL K H a (ns.map V.int) → HOk P w H s1.heap →
      codeAny (model P w) callerA (.call (.ref fa) ⟨[.ref a], []⟩) (fun r s2 => r = .ok (.ret (.bool true)) ∧ OldK s1.heap s2.heap ∧ s2.os = s1.os ∧ AllBare s2.gens) s1 := by
    intro H one sq hok
    have dict : ∀ {b : Addr} {o : Obj} {es : Array DictEntry} {ep : Nat}, s1.heap.get? b = some o → o.data = .dict es ep → H b = none := by
      intro b o es ep e d
      cases q : H b with
      | none => rfl
      | some u =>
        obtain ⟨rfl, _⟩ := one b u q
        rw [script] at e
        cases e
        cases d
    have ns_ : ∀ {b : Addr} {m : Str → Option Value}, s1.heap.Ns b m → (hidT s1.heap H).Ns b m := by
      rintro b m ⟨o, es, ep, e, d, r⟩
      exact ⟨o, es, ep, hidT_get e (dict e d), d, r⟩
    have kin1 : K.In (hidT s1.heap H) := by
      intro b o e
      refine hidT_get (kin b o e) ?_
      cases q : H b with
      | none => rfl
      | some u =>
        obtain ⟨rfl, z, _⟩ := one b u q
        rw [z] at e
        cases e
    obtain ⟨mc, l1, l2⟩ := free
    have env : Env0 P w K mg (hidT s1.heap H) callerA [] s1 H :=
      ⟨rfl, ⟨kin1, ns_ glob, ⟨mb, ns_ blt, boot⟩, ⟨mc, ns_ l1, l2⟩⟩, fun b o e => of_hidT e, Nat.le_of_eq (hidT_size _ _), trivial, fun b z => (nomatch (show b ∈ ([] : List Addr) from z)), hok, .of_eq calm⟩
    refine codeAny_mono ((G _ kin1 (ns_ glob)).run callerA [] s1 H ⟨[.ref a], []⟩ [.ref a] [.ref a] _ _ room rfl env (bind s1 (.ref a)) (.cons rfl .nil) (sp_start law few sq)) ?_
    rintro (e | fl) s2 h
    · obtain ⟨_, _, _, _, _, _, _, _, _, _, _, _, z⟩ := (show L2.CX P w [] H s1 _ e s2 from h)
      exact z.elim
    · cases fl with
      | ret u =>
        obtain ⟨v, H2, os, bare, un, hok2, rv, e⟩ := h
        have e : v = .bl true := e
        rw [e] at rv
        refine ⟨congrArg (fun z => (Except.ok (Flow.ret z) : Result)) (show u = Value.bool true from rv), OldK.of_keep fun b o e => ?_, os, bare⟩
        cases q : H b with
        | none => exact un.keep b o e q (fun z => (nomatch (show b ∈ ([] : List Addr) from z))) (by simp)
        | some t =>
          obtain ⟨_, _, ob, rfl⟩ := one b t q
          have h1 := (hok b _ q).1
          have h2 := (hok2 b _ (un.frzs b ob _ q)).1
          rw [e] at h1
          cases h1
          exact h2
      | _ => exact False.elim h
  cases q : K.lookup a with
  | some o =>
    have e := kin a o q
    rw [script] at e
    cases e
    refine from_ (fun _ => none) (fun b u z => nomatch z) (.inr ⟨_, vs.toArray, _, q, rfl, rfl, rfl, ?_, vals⟩) (fun b u z => nomatch z)
    rw [List.size_toArray]
    omega
  | none =>
    have at_ : ∀ {b : Addr} {u : HO}, (upd (fun _ => none : Hp) a (.frz { cls := .type "list", data := .seq vs.toArray } (.lst (ns.map V.int)))) b = some u → b = a ∧ u = .frz { cls := .type "list", data := .seq vs.toArray } (.lst (ns.map V.int)) := by
      intro b u z
      by_cases hb : b = a
      · rw [hb, upd_same] at z
        exact ⟨hb, (Option.some.inj z).symm⟩
      · rw [upd_ne hb] at z
        cases z
    refine from_ _ (fun b u z => ⟨(at_ z).1, q, _, (at_ z).2⟩) (.inl (.inr ⟨_, upd_same⟩)) fun b u z => ?_
    obtain ⟨rfl, rfl⟩ := at_ z
    exact ⟨script, by rw [List.length_map]; omega, vs, _, vals, script⟩
end
/-- a law's walk, over a head by facts -/
theorem walkG {l : PySem.W.OpenLaw} {k : Nat} {q : Program} {loose : List Str} {XP : (Str → Option Value) → Heap → Prop} {YP : World → Heap → Prop} {d : DefRec} {x : Str} {g : FD} (most : l.most = some 63) (plain : d.params.defaults = []) (room : Room k callerA) (law : LawD g)
    (G : ∀ (w : World) (mg : Str → Option Value) (fa : Addr) (h : Heap), YP w h → h.Ns mainGlobals mg → mg d.name = some (.ref fa) →
      ∃ (K : PySem.W.Frag) (fd : FuncData), K.In h ∧ (∀ (s : Shared) (u : Value), BindsTo s fd ⟨[u], []⟩ [(x, u)]) ∧ ∀ base : Heap, K.In base → base.Ns mainGlobals mg → FnG l.prog w K mg base k fa fd [x] (spD K 1 g)) :
    PySem.W.WalkO q loose XP YP l.row.toRowW d [] (fun f vs => PySem.call f vs) := by
  refine Att.attach_call most plain ?_
  intro w _ s1 mg _ fa _ _ _ _ a vs ns ground y _ _ _ there script itv few calm
  obtain ⟨K, fd, kin, bind, G⟩ := G w mg fa _ y ground.T.g there
  exact call_law law kin ground.T.g ground.T.b ground.T.builtins ground.T.nolimit calm script itv few room G bind
end Vf
/-! is None, is True; count, index; products of lists, tuples. -/
namespace Vf
open PySem PySem.Spec L2
open PyProof.Rows hiding St
section
variable {X : Cx} {W : WX} {K : PySem.W.Frag} {F H : Hp} {v : V} {a b : Expr} {f g : DE} {pos : Pos}
/-! ### x is None, x an exception perhaps -/
def noneW (e : En) : Wv → Option Bool
  | .exc _ => some false
  | .ff _ => some false
  | w => (rs e w).map isNone
def dIsN (f : DE) : DE := fun e => bnd (f e) fun w e1 => optB (noneW e1 w) e1
def dNotN (f : DE) : DE := fun e => bnd (f e) fun w e1 => optB ((noneW e1 w).map (!·)) e1
theorem noneW_ok {σ : St} {e : En} {w : Wv} {c : Bool} (R : Rel K F H σ e) (h : VV K F H σ e v w) (q : noneW e w = some c) : decide (v = .non) = c := by
  have go : ∀ w, VV K F H σ e v w → (rs e w).map isNone = some c → decide (v = .non) = c := fun w h q => by
    obtain ⟨x, q1, rfl⟩ := Option.map_eq_some_iff.mp q
    exact dh_isNone (rs_dh R h q1)
  cases w with
  | exc n =>
    cases q
    obtain ⟨a, rfl, _⟩ := h
    rfl
  | d x => exact go (.d x) h q
  | own x => exact go (.own x) h q
  | brw x => exact go (.brw x) h q
  | loc x => exact go (.loc x) h q
  | ff t =>
    cases q
    obtain ⟨a, o, rfl, _⟩ := h
    rfl
  | ot x => cases q
  | bt x => cases q
  | fo x => cases q
theorem go_isN {σ : St} {e : En} {Q : VK} (R : Rel X.K F H σ e) (h : Go X.K W (dIsN f e) σ e F H Q) : Go X.K W (f e) σ e F H fun x H1 => Q (.bl (decide (x = .non))) H1 := by
  refine Go.imp (Go.bnd h) ?_
  rintro v H1 ⟨F1, e1, w1, R1, S1, V1, N1, h1⟩
  have h1 : Go X.K W (optB (noneW e1 w1) e1) σ e F H Q := h1
  cases q : noneW e1 w1 with
  | none => rw [q] at h1; exact h1.elim
  | some c =>
    rw [q] at h1
    rw [noneW_ok R1 V1 q]
    exact h1 _ _ F1 R1 S1 (.bl c) trivial
theorem go_notN {σ : St} {e : En} {Q : VK} (R : Rel X.K F H σ e) (h : Go X.K W (dNotN f e) σ e F H Q) : Go X.K W (f e) σ e F H fun x H1 => Q (.bl (!decide (x = .non))) H1 := by
  refine Go.imp (Go.bnd h) ?_
  rintro v H1 ⟨F1, e1, w1, R1, S1, V1, N1, h1⟩
  have h1 : Go X.K W (optB ((noneW e1 w1).map (!·)) e1) σ e F H Q := h1
  cases q : noneW e1 w1 with
  | none => rw [q] at h1; exact h1.elim
  | some c =>
    rw [q] at h1
    rw [noneW_ok R1 V1 q]
    exact h1 _ _ F1 R1 S1 (.bl _) trivial
theorem pd_isN {j : Nat} {p : Pos} (ha : PE X a (tD X.K W f)) : PE X (.Compare a [.Is] [.Constant .none j p] pos) (tD X.K W (dIsN f)) :=
  PE.to (pe_cmp (pc_isN ha)) fun σ H Q ⟨F, e, R, h⟩ => ⟨F, e, R, go_isN R h⟩
theorem pd_notN {j : Nat} {p : Pos} (ha : PE X a (tD X.K W f)) : PE X (.Compare a [.IsNot] [.Constant .none j p] pos) (tD X.K W (dNotN f)) :=
  PE.to (pe_cmp (pc_notN ha)) fun σ H Q ⟨F, e, R, h⟩ => ⟨F, e, R, go_notN R h⟩
theorem pt_d_isN {j : Nat} {p : Pos} (ha : PE X a (tD X.K W f)) : PT X (.Compare a [.Is] [.Constant .none j p] pos) (tDT X.K W (dIsN f)) :=
  PT.to (pt_cmp (pc_isN ha)) fun σ H Q ⟨F, e, R, h⟩ => ⟨F, e, R, go_isN R (got_go h)⟩
theorem pt_d_notN {j : Nat} {p : Pos} (ha : PE X a (tD X.K W f)) : PT X (.Compare a [.IsNot] [.Constant .none j p] pos) (tDT X.K W (dNotN f)) :=
  PT.to (pt_cmp (pc_notN ha)) fun σ H Q ⟨F, e, R, h⟩ => ⟨F, e, R, go_notN R (got_go h)⟩
/-! ### x is True -/
def opIsB : PyData → PyData → Option Wv
  | .bool a, .bool b => some (.d (.bool (decide (a = b))))
  | _, _ => none
def opIsNotB : PyData → PyData → Option Wv
  | .bool a, .bool b => some (.d (.bool (!decide (a = b))))
  | _, _ => none
theorem hr_isB : Op2 K opIsB (fun x y H Q => ∃ a b, x = .bl a ∧ y = .bl b ∧ Q (.bl (decide (a = b))) H) := by
  intro F H v1 v2 x y w Q hx d1 d2 q k
  cases x with
  | bool a =>
    cases y with
    | bool b =>
      cases q
      exact ⟨a, b, dh_bl d1, dh_bl d2, k _ _ (new_dat (.bl _))⟩
    | _ => cases q
  | _ => cases q
theorem hr_isNotB : Op2 K opIsNotB (fun x y H Q => ∃ a b, x = .bl a ∧ y = .bl b ∧ Q (.bl (!decide (a = b))) H) := by
  intro F H v1 v2 x y w Q hx d1 d2 q k
  cases x with
  | bool a =>
    cases y with
    | bool b =>
      cases q
      exact ⟨a, b, dh_bl d1, dh_bl d2, k _ _ (new_dat (.bl _))⟩
    | _ => cases q
  | _ => cases q
/-! ### xs.index(x) -/
def firstAt (d : PyData) : List PyData → Option Nat
  | [] => none
  | x :: xs => if PyData.eqv x d = true then some 0 else (firstAt d xs).map (· + 1)
theorem firstAt_ok {d : PyData} : ∀ {xs : List PyData} {j : Nat}, firstAt d xs = some j → (∃ z, xs[j]? = some z ∧ PyData.eqv z d = true) ∧ ∀ (m : Nat) (z : PyData), m < j → xs[m]? = some z → PyData.eqv z d = false
  | [], _, h => by cases h
  | x :: xs, j, h => by
    have h : (if PyData.eqv x d = true then some 0 else (firstAt d xs).map (· + 1)) = some j := h
    by_cases e : PyData.eqv x d = true
    · rw [if_pos e] at h
      cases h
      exact ⟨⟨x, rfl, e⟩, fun m z lt => absurd lt (Nat.not_lt_zero _)⟩
    · rw [if_neg e] at h
      obtain ⟨i, h1, rfl⟩ := Option.map_eq_some_iff.mp h
      obtain ⟨⟨z, h2, h3⟩, h4⟩ := firstAt_ok h1
      refine ⟨⟨z, h2, h3⟩, fun m z lt hz => ?_⟩
      cases m with
      | zero =>
        cases hz
        exact Bool.eq_false_iff.mpr e
      | succ m => exact h4 m z (by omega) hz
def opIndex : PyData → List PyData → Option Wv
  | .list xs, [d] => if SeqAt.shaped (.list xs) && SeqAt.shaped d then (firstAt d xs).map fun j => .d (.int (j : Nat)) else none
  | _, _ => none
theorem hr_index : OpM K "list" opIndex (rIndexD K) := by
  intro F H v x vs xs w Q hx dv dvs q k
  unfold opIndex at q
  split at q
  · rename_i ys d
    by_cases sh : (SeqAt.shaped (.list ys) && SeqAt.shaped d) = true
    · rw [if_pos sh] at q
      obtain ⟨h1, h2⟩ := Bool.and_eq_true_iff.mp sh
      obtain ⟨j, hj, rfl⟩ := Option.map_eq_some_iff.mp q
      obtain ⟨u, rfl, d1⟩ := dhs1 dvs
      obtain ⟨⟨z, hz, e⟩, no⟩ := firstAt_ok hj
      have dl := dv.dp hx
      obtain ⟨a, us, rfl, _⟩ := dp_list_ref dl
      exact ⟨a, u, d, ys, j, z, rfl, rfl, dl, d1.dp hx, h1, h2, hz, e, no, k _ _ (new_dat (.int _))⟩
    · rw [if_neg sh] at q; cases q
  · cases q
/-! ### xs.count(x) -/
def countOf (d : PyData) (xs : List PyData) : Nat := xs.countP fun z => PyData.eqv z d
def opCount : PyData → List PyData → Option Wv
  | .list xs, [d] => if SeqAt.shaped (.list xs) && SeqAt.shaped d then some (.d (.int (countOf d xs : Nat))) else none
  | _, _ => none
def rCountD (K : PySem.W.Frag) : V → List V → Hp → VK → Prop := fun x xs H Q => ∃ (y : V) (d : PyData) (ds : List PyData), xs = [y] ∧ Dp K H x (.list ds) ∧ Dp K H y d ∧ SeqAt.shaped (.list ds) = true ∧ SeqAt.shaped d = true ∧ Q (.int (countOf d ds : Nat)) H
theorem mt_countD (hu : X.A.units + 65 < cLine) : MtR X "list.count" (rCountD X.K) := by
  intro pins s σ H x xs v us Q I rx rxs h
  obtain ⟨y, d, ds, rfl, dl, dy, h1, h2, q⟩ := h
  obtain ⟨u, rfl, ry⟩ := rxs.one
  obtain ⟨bs, r1⟩ := Dp.reads I d y u dy ry
  have lay : PyData.canLayAll0 ds = true := SeqAt.canLay_of_shaped h1
  have room : X.A.units + 1 + min (PyData.depthAll ds) d.depth < cLine := room_in_shaped h2 hu
  cases dl with
  | lst sq all =>
    cases rx
    obtain ⟨its, rv, ⟨⟨c, dd, data, sl⟩, n, there, c1, _, d1⟩, _⟩ := I.list sq
    simp only at c1 d1
    subst c1 d1
    obtain ⟨as, ra⟩ := Dp.readsAll I ds _ its all rv
    have same : its.map (SeqAt.readOf s.heap) = ds := SeqAt.readsAll_map ds its as lay ra
    have e : (its.toArray.toList.countP fun u => PyData.eqv (SeqAt.readOf s.heap u) d) = countOf d ds := by
      unfold countOf
      rw [← same, List.countP_map]
      rfl
    refine call_meets F.slot_list_count ⟨_, there, rfl⟩ F.entry_list_count (F.args_list_count_2 _ _) (SeqAt.list_countAt _ its.toArray n dd sl u fun z => PyData.eqv (SeqAt.readOf s.heap z) d) ⟨there, SeqAt.items_eqAt (vs := its.toArray) (show ReadsAll s.heap its.toArray.toList ds as from ra) r1 lay (SeqAt.canLay_of_shaped h2) room, ?_⟩
    rw [e]
    exact ⟨.int (countOf d ds : Nat), H, I.tok _, ⟨_, rfl⟩, q⟩
theorem hr_count : OpM K "list" opCount (rCountD K) := by
  intro F H v x vs xs w Q hx dv dvs q k
  unfold opCount at q
  split at q
  · rename_i ys d
    by_cases sh : (SeqAt.shaped (.list ys) && SeqAt.shaped d) = true
    · rw [if_pos sh] at q
      cases q
      obtain ⟨h1, h2⟩ := Bool.and_eq_true_iff.mp sh
      obtain ⟨u, rfl, d1⟩ := dhs1 dvs
      exact ⟨u, d, ys, rfl, dv.dp hx, d1.dp hx, h1, h2, k _ _ (new_dat (.int _))⟩
    · rw [if_neg sh] at q; cases q
  · cases q
/-- a list's type -/
def isLst : PyData → Bool
  | .list _ => true
  | _ => false
def isStr : PyData → Bool
  | .str _ => true
  | _ => false
theorem ty_lst : ∀ F H v x, Ex F H → DH K F H v x → isLst x = true → tyV K "list" v H := fun F H v x _ d h => by
  cases x with
  | list xs =>
    obtain ⟨a, us, rfl, s, _⟩ := dh_list d
    exact .inl ⟨rfl, us, s⟩
  | _ => cases h
end
end Vf
/-! Products. -/
namespace Vf
open PySem PySem.Spec L2
open PyProof.Rows hiding St
theorem tuple_once (l : Addr) (items : Array Value) (n : Nat) (sl : Array (Option Value)) (dd : Option Addr) (u : Tok) :
    Meets (Builtin.«tuple.__mul__» ⟨[.ref l, .int 1 u], []⟩) (fun _ R s => s.heap.get? l = some { cls := .type "tuple", dict := dd, data := .seq items n, slots := sl } ∧ R (.ok (.ret (Value.ref l))) s) :=
  .of_wp fun prog w A R s h => by
    obtain ⟨hp, g, dr, tk, os⟩ := s
    have there := h.1
    have goal := h.2
    have ix := AutoSeq1.idx_int
    have one : (items.isEmpty || (1 : Int) == 1) = true := by rw [Bool.or_eq_true]; exact .inr rfl
    wp_walk using wpAny_loadPart' there
    exact ⟨_, rfl, goal⟩
def rOnce (K : PySem.W.Frag) : R2 := fun x y H Q => ∃ l xs, x = V.ref l ∧ y = .int 1 ∧ SqT K H l xs ∧ Q (.ref l) H
section
variable {X : Cx} {W : WX} {K : PySem.W.Frag} {F H : Hp} {v : V} {a b : Expr} {f g : DE} {pos : Pos}
theorem op_once : OpR X (binaryOp .Mult) (rOnce X.K) := by
  rintro pins s σ H x y v u Q I rx ry ⟨l, xs, rfl, rfl, sq, q⟩
  cases rx
  obtain ⟨t, rfl⟩ := ry
  obtain ⟨its, _, ⟨⟨c, dd, data, sl⟩, there, c1, n, d1⟩, _⟩ := I.tuple sq
  simp only at c1 d1
  subst c1 d1
  have ty : s.TypeIs (.ref l) "tuple" := ⟨_, there, rfl⟩
  have back := call_meets F.slot_tuple_mul ty F.entry_tuple_mul (F.args_tuple_mul_2 _ _) (tuple_once l its.toArray n sl dd t) (prog := X.prog) (w := X.w) (A := X.A) (E := X.xe) (Q := EP X pins σ Q) ⟨there, ⟨.ref l, H, I, rfl, q⟩⟩
  exact wpAny_binaryOp_repeat_ref (T := "tuple") (U := "int") (by decide) ty (fun s2 => typeIs_int s2 1 t) noFill_tuple_mul F.fills_int_mul F.slot_int_rmul repeat_tuple F.slot_int_index.lookup
    (call_meets F.slot_int_rmul (typeIs_int s 1 t) F.entry_int_rmul (F.args_int_rmul_2 _ _) (int_rmul_tuple 1 t l its.toArray n dd sl) ⟨there, rfl, ty, back⟩)
/-- numbers, tuples -/
def rMulA (K : PySem.W.Frag) : R2 := fun x y H Q => (rI CMulW (fun i j => .int (i * j)) x y H Q ∨ rRep x y H Q) ∨ rRepT K x y H Q ∨ rOnce K x y H Q
theorem op_mulA : OpR X (binaryOp .Mult) (rMulA X.K) := (op_mulW.or op_rep).or (op_repT.or op_once)
def mul2 : PyData → PyData → Option Wv
  | .int i, .int j => if i.natAbs.log2 + j.natAbs.log2 < 1000000 then some (.d (.int (i * j))) else none
  | .tuple xs, .int k => if xs ≠ [] ∧ xs.length ≤ 1000 ∧ 1 ≤ k ∧ k ≤ 1000 then some (.d (.tuple (List.replicate k.toNat xs).flatten)) else none
  | _, _ => none
def mulW (e : En) (w1 w2 : Wv) : Option Wv := match w1 with
  | .own xs => (match rs e w2 with
    | some (.int k) => if (-(2 ^ 63) ≤ k ∧ k < 2 ^ 63) ∧ xs.length * k.toNat ≤ 1000000 then some (.own (List.replicate k.toNat xs).flatten) else none
    | _ => none)
  | w1 => (rs e w1).bind fun x => (rs e w2).bind fun y => mul2 x y
def dMulA (f g : DE) : DE := fun e => bnd (f e) fun w1 e1 => bnd (g e1) fun w2 e2 => optR (mulW e2 w1 w2) e2
theorem mul_read : ∀ σ H Q, tD X.K W (dMulA f g) σ H Q → tOp (rMulA X.K) (tD X.K W f) (tD X.K W g) σ H Q := by
  rintro σ H Q ⟨F, e, R, h⟩
  refine ⟨F, e, R, h.bnd.imp ?_⟩
  rintro v1 H1 ⟨F1, e1, w1, R1, S1, V1, N1, h1⟩
  refine ⟨F1, e1, R1, (h1.later S1).bnd.imp ?_⟩
  rintro v2 H2 ⟨F2, e2, w2, R2, S2, V2, N2, h2⟩
  obtain ⟨z, qz, h2⟩ := h2.opt
  have V1 := V1.mono R1.ex R2.ex S2
  have k := Go.new h2 S2 R2
  have data : (rs e2 w1).bind (fun x => (rs e2 w2).bind fun y => mul2 x y) = some z → rMulA X.K v1 v2 H2 Q := by
    intro q
    obtain ⟨x, q1, q⟩ := Option.bind_eq_some_iff.mp q
    obtain ⟨y, q2, q⟩ := Option.bind_eq_some_iff.mp q
    have d1 := rs_dh R2 V1 q1
    have d2 := rs_dh R2 V2 q2
    cases x with
    | int i =>
      cases y with
      | int j =>
        have q : (if i.natAbs.log2 + j.natAbs.log2 < 1000000 then some (Wv.d (.int (i * j))) else none) = some z := q
        by_cases small : i.natAbs.log2 + j.natAbs.log2 < 1000000
        · rw [if_pos small] at q
          cases q
          exact .inl (.inl ⟨i, j, dh_int d1, dh_int d2, small, k _ _ (new_dat (.int _))⟩)
        · rw [if_neg small] at q; cases q
      | _ => cases q
    | tuple xs =>
      cases y with
      | int n =>
        have q : (if xs ≠ [] ∧ xs.length ≤ 1000 ∧ 1 ≤ n ∧ n ≤ 1000 then some (Wv.d (.tuple (List.replicate n.toNat xs).flatten)) else none) = some z := q
        by_cases small : xs ≠ [] ∧ xs.length ≤ 1000 ∧ 1 ≤ n ∧ n ≤ 1000
        · rw [if_pos small] at q
          cases q
          obtain ⟨s1, s2, s3, s4⟩ := small
          have d1' := d1
          obtain ⟨a, us, rfl, sq, all⟩ := dh_tup R2.ex d1
          by_cases one : n = 1
          · subst one
            refine .inr (.inr ⟨a, us, rfl, dh_int d2, sq, k _ _ (.inl ⟨rfl, ?_⟩)⟩)
            have e : (List.replicate (1 : Int).toNat xs).flatten = xs := by
              show (List.replicate 1 xs).flatten = xs
              simp
            rw [e]
            exact d1'
          · refine .inr (.inl ⟨a, n, us, rfl, dh_int d2, sq, fun z => s1 ?_, by omega, s4, by rw [dpa_len all]; exact s2, fun p hp => k _ _ (.inr ⟨p, _, _, rfl, hp, rfl, rfl, dpa_rep all _⟩)⟩)
            have l := dpa_len all
            rw [z] at l
            exact List.eq_nil_of_length_eq_zero l.symm
        · rw [if_neg small] at q; cases q
      | _ => cases q
    | _ => cases q
  cases w1 with
  | own xs =>
    have qz : (match rs e2 w2 with
      | some (.int k) => if (-(2 ^ 63) ≤ k ∧ k < 2 ^ 63) ∧ xs.length * k.toNat ≤ 1000000 then some (Wv.own (List.replicate k.toNat xs).flatten) else none
      | _ => none) = some z := qz
    obtain ⟨⟨p, us, rfl, a1, a2, a3⟩, _⟩ := V1
    split at qz
    · rename_i n q2
      split at qz
      · rename_i small
        cases qz
        exact .inl (.inr ⟨p, n, us, rfl, dh_int (rs_dh R2 V2 q2), a2, small.1.1, small.1.2, le_line (by rw [dpa_len a3]; exact small.2), fun l hl => k _ _ ⟨l, _, rfl, hl, rfl, dpa_rep a3 _⟩⟩)
      · cases qz
    · cases qz
  | d x => exact data qz
  | brw x => exact data qz
  | loc x => exact data qz
  | exc x => exact data qz
  | ot x => exact data qz
  | bt x => exact data qz
  | fo x => exact data qz
  | ff x => exact data qz
theorem pd_mul (ha : PE X a (tD X.K W f)) (hb : PE X b (tD X.K W g)) : PE X (.BinOp a .Mult b pos) (tD X.K W (dMulA f g)) := PE.to (pe_op op_mulA ha hb) mul_read
end
end Vf
/-! Words for derivations. -/
namespace Vf
open PySem PySem.Spec L2
open PyProof.Rows hiding St
/-! ### a def of the text, as its callers see it -/
def Has (P : Program) (w : World) (K : PySem.W.Frag) (mg : Str → Option Value) (base : Heap) (k : Nat) (x : Str) (ps : List Str) (g : FD) : Prop :=
  ∃ fd, FnG P w K mg base k (He.ga K x) fd ps (spD K ps.length g) ∧ Binds K fd ps [] ∧ PySem.W.keepIn K (.ref (He.ga K x)) = true ∧ mg x = some (.ref (He.ga K x))
section
variable {X : Cx} {W : WX} {k k' n : Nat} {ps : List Str} {g : FD} {x : Str} {p pos : Pos} {a b : Expr} {as : List Expr} {f t el : DE} {fs : List DE}
theorem kal (h : Has X.prog X.w X.K X.mg X.base k x ps g) (hk : k ≤ k') (hr : Room k' X.A) (hgd : Gd X.A) (tk : Takes X W) (hg : Gl X x) (ha : PA X (a :: as) (tDA X.K W fs)) (hn : ps.length = n := by rfl) (hdb : (x == ("__debug__" : Str)) = false := by decide)
    (he : starEach (a :: as) X.env = (false, eval a X.env) :: starEach as X.env := by rfl) (hpl : (backTo pos (starEach as X.env)).any (·.1) = false := by rfl) :
    PE X (.Call (.Name x p) (a :: as) [] pos) (tD X.K W (dCall n g fs)) := by
  subst hn
  obtain ⟨fd, G, B, kp, m⟩ := h
  exact pd_call (G.mono hk) hr hgd (fun σ => passAt tk σ) hg m kp B ha hdb he hpl
theorem kalB (h : Has X.prog X.w X.K X.mg X.base k x ps g) (hk : k ≤ k') (hr : Room k' X.A) (hgd : Gd X.A) (tk : Takes X W) (hg : Gl X x) (ha : PA X (a :: as) (tDA X.K W fs)) (hn : ps.length = n := by rfl) (hdb : (x == ("__debug__" : Str)) = false := by decide)
    (he : starEach (a :: as) X.env = (false, eval a X.env) :: starEach as X.env := by rfl) (hpl : (backTo pos (starEach as X.env)).any (·.1) = false := by rfl) :
    PE X (.Call (.Name x p) (a :: as) [] pos) (tD X.K W (dCallB n g fs)) := by
  subst hn
  obtain ⟨fd, G, B, kp, m⟩ := h
  exact pd_callB' (G.mono hk) hr hgd (fun σ => passAt tk σ) hg m kp B ha hdb he hpl
/-! ### a number, a text, a tuple of the module's names -/
theorem pd_gint {n : Int} (hg : Gl X x) (h : ∃ t, X.mg x = some (.int n t)) (hdb : (x == ("__debug__" : Str)) = false := by decide) : PE X (.Name x pos) (tD X.K W (dC (.int n))) := by
  obtain ⟨t, h⟩ := h
  exact pd_c (v := .int n) (pe_glob hg h ⟨t, rfl⟩ hdb) fun _ => .int n
theorem pd_gdat {d : PyData} (hg : Gl X x) (h : ∃ a, X.mg x = some (.ref a) ∧ ∀ F, Dp X.K F (.ref a) d) (hdb : (x == ("__debug__" : Str)) = false := by decide) : PE X (.Name x pos) (tD X.K W (dC d)) := by
  obtain ⟨a, h, hd⟩ := h
  exact pd_c (v := .ref a) (pe_glob hg h rfl hdb) hd
/-! ### comprehensions -/
section
variable {elt tg iter : Expr} {ifs : List Expr} {scope : Scope} {own : List (Str × Nat)} {tgf : PyData → En → Option En} {js : List Nat} {gt : TG} {tt : TT} {i : Nat} {y : Str} {py spos : Pos} {vs : List Nat}
abbrev InB (X : Cx) (scope : Scope) (φ : Cx → Prop) : Prop := ∀ (s : Shared) (H : Hp) (C : Addr) (cl : List (Str × Addr)) (fp : List Addr), φ (X.blk s H scope (compEnvC scope cl C X.env) fp)
theorem pd_lc (hc : X.calm = true) (hN : X.N.Nodup) (hi : PE X iter (tD X.K W (dEs f))) (ok : BlkOk X.N X.env.scope scope own) (hg : InB X scope fun Y => PG Y tg gt) (T : TgOk X.K js gt tgf) (hv : own.map (·.2) = vs) (hj : ∀ j ∈ js, j ∈ vs)
    (ht : InB X scope fun Y => PTs Y ifs tt) (htt : ∀ σ H Q, tDT X.K WF t σ H Q → tt σ H Q) (he : InB X scope fun Y => PE Y elt (tD X.K WF (dEs el))) (hs : ∀ x, foldedSetIterable iter X.env x = pure x := by intro _; rfl) :
    PE X (.ListComp elt [⟨tg, iter, ifs, 0⟩] scope pos) (tD X.K W (dLc f vs tgf t el)) :=
  by subst hv; exact PE.to (pe_lc hc hN (pi_seq hi) ok hg ht he hs) (lc_read T hj htt)
theorem pd_lcR {p0 p1 : Pos} {n : Expr} (hc : X.calm = true) (hN : X.N.Nodup) (gr : Gl X "range") (mr : X.mg "range" = none) (hi : PE X n (tD X.K W f)) (ok : BlkOk X.N X.env.scope scope own) (hg : InB X scope fun Y => PG Y tg gt) (T : TgOk X.K js gt tgf) (hv : own.map (·.2) = vs) (hj : ∀ j ∈ js, j ∈ vs)
    (ht : InB X scope fun Y => PTs Y ifs tt) (htt : ∀ σ H Q, tDT X.K WF t σ H Q → tt σ H Q) (he : InB X scope fun Y => PE Y elt (tD X.K WF (dEs el))) (ha : starEach [n] X.env = [(false, eval n X.env)] := by rfl) :
    PE X (.ListComp elt [⟨tg, .Call (.Name "range" p0) [n] [] p1, ifs, 0⟩] scope pos) (tD X.K W (dLcR f vs tgf t el)) :=
  by subst hv; exact PE.to (pe_lc hc hN (pi_range1 gr mr (pa_cons hi pa_nil ha) ha) ok hg ht he (by intro _; rfl)) (lcr_read T hj htt)
theorem ps_d_setLc (hc : X.calm = true) (hN : X.N.Nodup) (hy : X.N[i]? = some y) (hyl : X.env.scope.names.lookup y = some .local) (hsw : swapsWith (.ListComp elt [⟨tg, iter, ifs, 0⟩] scope pos) (some (.Name y py)) spos.line X.env = pure true)
    (hi : PE X iter (tD X.K W (dEs f))) (ok : BlkOk X.N X.env.scope scope own) (hg : InB X scope fun Y => PG Y tg gt) (T : TgOk X.K js gt tgf) (hv : own.map (·.2) = vs) (hj : ∀ j ∈ js, j ∈ vs)
    (ht : InB X scope fun Y => PTs Y ifs tt) (htt : ∀ σ H Q, tDT X.K WF t σ H Q → tt σ H Q) (he : InB X scope fun Y => PE Y elt (tD X.K WF (dEs el))) (hs : ∀ x, foldedSetIterable iter X.env x = pure x := by intro _; rfl) :
    PS X (.Assign [.Name y py] (.ListComp elt [⟨tg, iter, ifs, 0⟩] scope pos) spos) (tDS X.K W (dAsg i (dLc f vs tgf t el))) :=
  by subst hv; exact ps_d_set (PS.to (ps_setLc hc hN hy hyl hsw (pi_seq hi) ok hg ht he hs) fun D σ H q => lc_read T hj htt σ H _ q)
theorem ps_d_setLcR {p0 p1 : Pos} {n : Expr} (hc : X.calm = true) (hN : X.N.Nodup) (hy : X.N[i]? = some y) (hyl : X.env.scope.names.lookup y = some .local) (hsw : swapsWith (.ListComp elt [⟨tg, .Call (.Name "range" p0) [n] [] p1, ifs, 0⟩] scope pos) (some (.Name y py)) spos.line X.env = pure true)
    (gr : Gl X "range") (mr : X.mg "range" = none) (hi : PE X n (tD X.K W f)) (ok : BlkOk X.N X.env.scope scope own) (hg : InB X scope fun Y => PG Y tg gt) (T : TgOk X.K js gt tgf) (hv : own.map (·.2) = vs) (hj : ∀ j ∈ js, j ∈ vs)
    (ht : InB X scope fun Y => PTs Y ifs tt) (htt : ∀ σ H Q, tDT X.K WF t σ H Q → tt σ H Q) (he : InB X scope fun Y => PE Y elt (tD X.K WF (dEs el))) (ha : starEach [n] X.env = [(false, eval n X.env)] := by rfl) :
    PS X (.Assign [.Name y py] (.ListComp elt [⟨tg, .Call (.Name "range" p0) [n] [] p1, ifs, 0⟩] scope pos) spos) (tDS X.K W (dAsg i (dLcR f vs tgf t el))) :=
  by subst hv; exact ps_d_set (PS.to (ps_setLc hc hN hy hyl hsw (pi_range1 gr mr (pa_cons hi pa_nil ha) ha) ok hg ht he (by intro _; rfl)) fun D σ H q => lcr_read T hj htt σ H _ q)
theorem it_if {t : DE} : ∀ (σ : St) (H : Hp) (Q : Bool → Hp → Prop), tDT X.K WF t σ H Q → tDT X.K WF t σ H Q := fun _ _ _ q => q
end
end
/-! ### raising, catching -/
structure ExcK (K : PySem.W.Frag) (mg : Str → Option Value) (c : Str) : Prop where
  g : mg c = some (cl K c)
  x : PySem.W.excIn K (He.ga K c) He.veBase "ValueError.__new__" = true
  k : PySem.W.keepIn K (cl K c) = true
  b : PySem.W.subIn K (cl K c) (.type "BaseException") = some true
  t : PySem.W.typeIn K (cl K c) = some (.type "type")
section
variable {X : Cx} {W : WX}
theorem ps_d_raiseC {c m : Str} {j : Nat} {p p2 pos rpos : Pos} (hc : X.calm = true) (tk : Takes X W) (h : ExcK X.K X.mg c) (hg : Gl X c) (hdb : (c == ("__debug__" : Str)) = false := by decide) :
    PS X (.Raise (some (.Call (.Name c p) [.Constant (.str m) j p2] [] pos)) none rpos) (tDS X.K W (dRaise c)) :=
  ps_d_raise hc tk (pmk_own PySem.F.excBase_ValueError h.x h.g h.k (raises_own h.b h.t) hg hdb)
theorem ps_d_try {i j : Nat} {c n y : Str} {s : DS} {cat : Str → Option Bool} {np q1 q2 q3 pos' pos : Pos} {body : List Stmt}
    (hs : X.stack = X.env :: X.outer) (hf : X.env.frame = some X.env.locals) (hex : X.ex = []) (hN : X.N.Nodup) (hi : X.N[i]? = some n) (hln : X.env.kindOf n = some .local) (hj : X.N[j]? = some y) (hly : X.env.kindOf y = some .local) (hvn : Vis X.env.scope n)
    (hc : ExcK X.K X.mg c) (hg : Gl X c) (tk : Takes X W) (hcat : ∀ d b, cat d = some b → PySem.W.exmOne X.K (cl X.K d) (cl X.K c) = some b)
    (hb : ∀ (V : WX) (pn : List (Addr × Obj)) (xe : Value → Shared → Prop), Takes (X.tr pn xe) V → PassesOwn (model X.prog X.w) X.A X.env xe → PSs (X.tr pn xe) body (tDS X.K V s))
    (hsw : swapsWith (.Name n q1) (some (.Name y q2)) q3.line X.env = pure false := by rfl) (hdn : (n == ("__debug__" : Str)) = false := by decide) (hcn : (n == ("__classdict__" : Str)) = false := by decide) (hdb : (c == ("__debug__" : Str)) = false := by decide) :
    PS X (.Try body [.ExceptHandler (some (.Name c np)) (some n) [.Assign [.Name y q2] (.Name n q1) q3] pos'] [] [] pos) (tDS X.K W (dTry s cat i j)) :=
  PS.to (ps_tryK (tb := fun V => tDS X.K V s) hs hf hex hN hi hln hj hly hvn hdn hcn ⟨hg, hdb, .inl hc.g⟩ tk hb hsw) (try_read hcat)
end
end Vf
/-! The head: what the module's names stand for, read off the state behind the top. -/
namespace Vf
open PySem PySem.Spec L2
open PyProof.Rows hiding St
abbrev Xs : Type := List (PySem.W.Frag → Bool)
def seenV (fa : List He.Fa) (fn : List He.DefD) (xs : Xs) (K : PySem.W.Frag) : Bool × He.AlD := (xs.all fun f => f K, He.obsD fa fn K)
def SaysV (fa : List He.Fa) (fn : List He.DefD) (xs : Xs) (K : PySem.W.Frag) : Prop := seenV fa fn xs K = (true, He.valD fn)
def obsV (n : Nat) (fa : List He.Fa) (fn : List He.DefD) (xs : Xs) (g : Addr → Option Obj) : Bool × He.AlD := seenV fa fn xs (He.frG g (He.asD g n))
def hookV (n : Nat) (fa : List He.Fa) (fn : List He.DefD) (xs : Xs) : PySem.W.Hook where
  α := Bool × He.AlD
  obs := fun s => obsV n fa fn xs s.heap.get?
  val := fun _ => (true, He.valD fn)
  says := fun _ h => ∃ K : PySem.W.Frag, K.In h ∧ SaysV fa fn xs K
  of := fun _ _ q => Exists.intro _ ⟨He.frG_in, q⟩
  keeps := fun _ _ _ h kept => h.elim fun K q => ⟨K, PySem.W.Frag.In.keeps q.1 kept, q.2⟩
theorem obsV_eq {n : Nat} {fa : List He.Fa} {fn : List He.DefD} {xs : Xs} {g : Addr → Option Obj} {s : Shared} (h : ∀ a, g a = s.heap.get? a) : obsV n fa fn xs g = (hookV n fa fn xs).obs s := by
  obtain rfl : g = s.heap.get? := funext h
  rfl
section
variable {fa : List He.Fa} {fn : List He.DefD} {xs : Xs} {K : PySem.W.Frag}
theorem SaysV.d (c : SaysV fa fn xs K) : He.SaysD fa fn K := congrArg Prod.snd c
theorem SaysV.x (c : SaysV fa fn xs K) {f : PySem.W.Frag → Bool} (i : Nat) (h : xs[i]? = some f := by rfl) : f K = true :=
  List.all_eq_true.mp (show xs.all (fun f => f K) = true from congrArg Prod.fst c) f (List.mem_of_getElem? h)
/-! ### exceptions asked for their class -/
def excB (n : Str) : PySem.W.Frag → Bool := fun K =>
  (decide (PySem.W.findIn K (cl K n) "__getattribute__" = some (some (.builtin "BaseException.__getattribute__"))) && decide (PySem.W.findIn K (cl K n) "__getattr__" = some none)) &&
  ((decide (PySem.W.subIn K (cl K n) (.type "BaseException") = some true) && PySem.W.hasDictIn K (He.ga K n)) &&
  ((decide (PySem.W.findIn K (cl K n) "__class__" = some (some (.builtin "object.__class__"))) && decide (PySem.W.specialIn K (.builtin "object.__class__") "__get__" = some (some (.builtin "getset_descriptor.__get__")))) &&
  (decide (PySem.W.takesIn K (.builtin "object.__class__") = some true) && decide (PySem.W.mroIn K (He.ga K n) (.type "object") = some true))))
theorem excB_ok {n : Str} (h : excB n K = true) : ExcC K (He.ga K n) := by
  unfold excB at h
  simp only [Bool.and_eq_true, decide_eq_true_eq] at h
  obtain ⟨⟨a, b⟩, ⟨c, d⟩, ⟨e, f⟩, g, i⟩ := h
  exact ⟨a, b, c, d, e, f, g, i⟩
def kitC (n k : Str) (b : Bool) : PySem.W.Frag → Bool := fun K => decide (PySem.W.kitOne K (cl K n) (cl K k) = some b)
def kitT (n T : String) (b : Bool) : PySem.W.Frag → Bool := fun K => decide (PySem.W.kitOne K (cl K n) (.type T) = some b)
def tupX (x : Str) (vs : List He.Dv) : PySem.W.Frag → Bool := fun K => He.tupB K x vs
def lstX (x : Str) (vs : List He.Dv) : PySem.W.Frag → Bool := fun K => He.lstB K x vs
theorem exck {h : Heap} {mg : Str → Option Value} {n : Str} (X : K.In h) (G : h.Ns mainGlobals mg) (c1 : (He.Fa.glo n).ok K = true) (c2 : (He.Fa.exc n).ok K = true) : ExcK K mg n := by
  obtain ⟨a, b, c, d⟩ := He.exc_ok c2
  exact ⟨He.glo_ok X G c1, a, b, c, d⟩
theorem dpa_strs {F : Hp} : ∀ zs : List Str, DpAll K F ((zs.map He.Dv.str).map (He.Dv.v K)) (zs.map PyData.str)
  | [] => .nil
  | z :: zs => .cons (.str z) (dpa_strs zs)
end
end Vf
namespace Vf
open PySem PySem.Spec L2
open PyProof.Rows hiding St
section
variable {K : PySem.W.Frag} {u : Value}
/-- a table of answers by the class's name -/
abbrev Tb := List (Str × Bool)
def tbl (l : Tb) : Str → Option Bool := fun n => l.lookup n
theorem tbl_mem {l : Tb} {n : Str} {b : Bool} (h : tbl l n = some b) : (n, b) ∈ l := by
  induction l with
  | nil => cases h
  | cons p l ih =>
    obtain ⟨m, c⟩ := p
    have h : (match n == m with | true => some c | false => l.lookup n) = some b := h
    cases q : n == m with
    | true =>
      rw [q] at h
      cases h
      rw [beq_iff_eq.mp q]
      exact List.mem_cons_self
    | false =>
      rw [q] at h
      exact List.mem_cons_of_mem _ (ih h)
theorem clsk_tbl {l : Tb} (h : ∀ p ∈ l, ExcC K (He.ga K p.1) ∧ PySem.W.kitOne K (cl K p.1) u = some p.2) : ClsK K u (fun _ => none) (tbl l) :=
  ⟨fun x b q => (by cases q), fun n b q => h _ (tbl_mem q)⟩
theorem cat_tbl {c : Str} {l : Tb} (h : ∀ p ∈ l, PySem.W.exmOne K (cl K p.1) (cl K c) = some p.2) : ∀ d b, tbl l d = some b → PySem.W.exmOne K (cl K d) (cl K c) = some b := fun d b q => h _ (tbl_mem q)
theorem all_cons {α : Type} {P : α → Prop} {a : α} {l : List α} (h : P a) (t : ∀ x ∈ l, P x) : ∀ x ∈ a :: l, P x := List.forall_mem_cons.mpr ⟨h, t⟩
theorem all_nil {α : Type} {P : α → Prop} : ∀ x ∈ ([] : List α), P x := fun _ h => nomatch h
end
end Vf
/-! Denotations, worked out. -/
namespace Vf
open PySem PySem.Spec L2
section
variable {f g h c : DE} {fs : List DE} {s t : DS} {e e' e1 : En} {w w1 : Wv} {ws : List Wv} {x y z : PyData} {xs ys : List PyData} {i j n : Nat} {k : Wv → En → Rs} {ko : Wv → En → Out} {ks : En → Out} {kl : List Wv → En → Rs} {kc : Wv → En → RsL} {cl' : Str} {o o' : Option Wv} {α β : Type} {a : α}
/-! ### plumbing -/
theorem z_ob {F : α → Option β} : (some a).bind F = F a := (rfl)
theorem z_om {F : α → β} : (some a).map F = some (F a) := (rfl)
theorem z_b1 : bnd (.ok w e) k = k w e := (rfl)
theorem z_b2 : bnd (.err cl' e) k = .err cl' e := (rfl)
theorem z_be1 : bndE (.ok w e) ko = ko w e := (rfl)
theorem z_be2 : bndE (.err cl' e) ko = .err cl' e := (rfl)
theorem z_bs1 : bndS (.nx e) ks = ks e := (rfl)
theorem z_bs2 : bndS (.rt w e) ks = .rt w e := (rfl)
theorem z_bs3 : bndS (.err cl' e) ks = .err cl' e := (rfl)
theorem z_bl1 : bndL (.ok ws e) kl = kl ws e := (rfl)
theorem z_bl2 : bndL (.err cl' e) kl = .err cl' e := (rfl)
theorem z_bc1 : bndC (.ok w e) kc = kc w e := (rfl)
theorem z_bc2 : bndC (.err cl' e) kc = .err cl' e := (rfl)
theorem z_cr1 : consR w (.ok ws e) = .ok (w :: ws) e := (rfl)
theorem z_cr2 : consR w (.err cl' e) = .err cl' e := (rfl)
theorem z_or : optR (some w) e = .ok w e := (rfl)
theorem z_os : optS (some e) = .nx e := (rfl)
theorem z_oo {k : En → Out} : outO (some e) k = k e := (rfl)
theorem z_ol {k : List PyData → Out} : outL (some xs) k = k xs := (rfl)
theorem z_oB {b : Bool} : optB (some b) e = .ok (.d (.bool b)) e := (rfl)
/-! ### slots -/
def slN (i : Nat) (e : En) : Option (Option Wv) → Rs
  | some (some (.d x)) => .ok (.d x) e
  | some (some (.own _)) => .ok (.loc i) e
  | some (some (.brw _)) => .ok (.loc i) e
  | some (some (.exc c)) => .ok (.exc c) e
  | some (some (.ff t)) => .ok (.ff t) e
  | some (some (.ot _)) => .ok (.loc i) e
  | some (some (.bt _)) => .ok (.loc i) e
  | some (some (.fo _)) => .ok (.loc i) e
  | _ => .bad
theorem z_name : dName i e = slN i e e[i]? := by
  unfold dName slN
  split <;> simp_all
theorem z_sn1 : slN i e (some (some (.d x))) = .ok (.d x) e := (rfl)
theorem z_sn2 : slN i e (some (some (.own xs))) = .ok (.loc i) e := (rfl)
theorem z_sn3 : slN i e (some (some (.brw xs))) = .ok (.loc i) e := (rfl)
theorem z_sn5 {t : FT} : slN i e (some (some (.ff t))) = .ok (.ff t) e := (rfl)
theorem z_sn6 {t : OT} : slN i e (some (some (.ot t))) = .ok (.loc i) e := (rfl)
theorem z_sn7 {t : OT} : slN i e (some (some (.bt t))) = .ok (.loc i) e := (rfl)
theorem z_sn8 {t : FT} : slN i e (some (some (.fo t))) = .ok (.loc i) e := (rfl)
theorem z_sn4 : slN i e (some (some (.exc cl'))) = .ok (.exc cl') e := (rfl)
def slR : Option (Option Wv) → Option PyData
  | some (some (.d x)) => some x
  | some (some (.own xs)) => some (.list xs)
  | some (some (.brw xs)) => some (.list xs)
  | _ => none
theorem z_rs1 : rs e (.d x) = some x := (rfl)
theorem z_rs2 : rs e (.own xs) = some (.list xs) := (rfl)
theorem z_rs3 : rs e (.brw xs) = some (.list xs) := (rfl)
theorem z_rs4 : rs e (.loc i) = slR e[i]? := by
  cases q : e[i]? with
  | none => simp only [rs, es, mvOut, q] <;> rfl
  | some u =>
    cases u with
    | none => simp only [rs, es, mvOut, q] <;> rfl
    | some w => cases w <;> simp only [rs, es, mvOut, q] <;> rfl
theorem z_sr1 : slR (some (some (.d x))) = some x := (rfl)
theorem z_sr2 : slR (some (some (.own xs))) = some (.list xs) := (rfl)
theorem z_sr3 : slR (some (some (.brw xs))) = some (.list xs) := (rfl)
theorem z_rss0 : rss e [] = some [] := (rfl)
theorem z_rss1 : rss e (w :: ws) = (rs e w).bind fun x => (rss e ws).bind fun xs => some (x :: xs) := (rfl)
def esT : Option (PyData × En) → Rs
  | some p => .ok (.d p.1) p.2
  | none => .bad
def slE (i : Nat) (e : En) : Option (Option Wv) → Option (PyData × En)
  | some (some (.d x)) => some (x, e)
  | some (some (.own xs)) => some (.list xs, e.set i (some (.d (.list xs))))
  | some (some (.ot t)) => some (toD t, e.set i (some (.d (toD t))))
  | _ => none
theorem z_es : dEs f e = esR (f e) := (rfl)
theorem z_es1 : esR (.ok w e) = esT (es e w) := by
  unfold esT esR
  show (match es e w with | some (x, e') => Rs.ok (.d x) e' | none => .bad) = _
  cases es e w <;> rfl
theorem z_es2 : esR (.err cl' e) = .err cl' e := (rfl)
theorem z_est {p : PyData × En} : esT (some p) = .ok (.d p.1) p.2 := (rfl)
theorem z_e1 : es e (.d x) = some (x, e) := (rfl)
theorem z_e2 : es e (.own xs) = some (.list xs, e) := (rfl)
theorem z_e4 : es e (.loc i) = slE i e e[i]? := by
  cases q : e[i]? with
  | none => simp only [rs, es, mvOut, q] <;> rfl
  | some u =>
    cases u with
    | none => simp only [rs, es, mvOut, q] <;> rfl
    | some w => cases w <;> simp only [rs, es, mvOut, q] <;> rfl
theorem z_se1 : slE i e (some (some (.d x))) = some (x, e) := (rfl)
theorem z_se2 : slE i e (some (some (.own xs))) = some (.list xs, e.set i (some (.d (.list xs)))) := (rfl)
theorem z_se3 {t : OT} : slE i e (some (some (.ot t))) = some (toD t, e.set i (some (.d (toD t)))) := (rfl)
theorem z_e5 {t : OT} : es e (.ot t) = some (toD t, e) := (rfl)
theorem z_nb4 {t : OT} : notBrw (some (some (.ot t))) = true := (rfl)
theorem z_nb5 {t : FT} : notBrw (some (some (.fo t))) = true := (rfl)
theorem z_nb6 {t : FT} : notBrw (some (some (.ff t))) = true := (rfl)
theorem z_a5 {t : OT} : asgE e j (.ot t) = setW e j (.ot t) := (rfl)
theorem z_a6 {t : FT} : asgE e j (.fo t) = setW e j (.fo t) := (rfl)
theorem z_a7 {t : FT} : asgE e j (.ff t) = setW e j (.ff t) := (rfl)
theorem z_nb0 : notBrw (some none) = true := (rfl)
theorem z_nb1 : notBrw (some (some (.d x))) = true := (rfl)
theorem z_nb2 : notBrw (some (some (.own xs))) = true := (rfl)
theorem z_nb3 : notBrw (some (some (.exc cl'))) = true := (rfl)
theorem z_setW : setW e j w = if notBrw e[j]? = true then some (e.set j (some w)) else none := (rfl)
theorem z_a1 : asgE e j (.d x) = setW e j (.d x) := (rfl)
theorem z_a2 : asgE e j (.own xs) = setW e j (.own xs) := (rfl)
theorem z_a3 : asgE e j (.exc cl') = setW e j (.exc cl') := (rfl)
theorem z_a4 : asgE e j (.loc i) = (es e (.loc i)).bind fun p => setW p.2 j (.d p.1) := (rfl)
/-! ### expressions -/
theorem z_c : dC x e = .ok (.d x) e := (rfl)
theorem z_u2 {op : PyData → PyData → Option Wv} : dU2 op f g e = bnd (f e) fun w1 e1 => bnd (g e1) fun w2 e2 => optR ((rs e2 w1).bind fun x => (rs e2 w2).bind fun y => op x y) e2 := (rfl)
theorem z_u1 {op : PyData → Option Wv} : dU1 op f e = bnd (f e) fun w1 e1 => optR ((rs e1 w1).bind op) e1 := (rfl)
theorem z_un {op : List PyData → Option Wv} : dUn op fs e = bndL (evs fs e) fun ws e1 => optR ((rss e1 ws).bind op) e1 := (rfl)
theorem z_ev0 : evs [] e = .ok [] e := (rfl)
theorem z_ev1 : evs (f :: fs) e = bndC (f e) fun w e1 => consR w (evs fs e1) := (rfl)
theorem z_tup : dTup fs e = bndL (evs fs e) fun ws e1 => optR ((dats ws).bind fun xs => lim xs.length (.d (.tuple xs))) e1 := (rfl)
theorem z_lst : dLst fs e = bndL (evs fs e) fun ws e1 => optR ((dats ws).bind fun xs => lim xs.length (.own xs)) e1 := (rfl)
theorem z_dt0 : dats [] = some [] := (rfl)
theorem z_dt1 : dats (.d x :: ws) = (dats ws).bind fun xs => some (x :: xs) := (rfl)
theorem z_d1 : dat1 (.d x) = some x := (rfl)
theorem z_lim (h : n ≤ 1000000) : lim n w = some w := if_pos h
theorem z_isB {b : Bool} : isB (some (.bool b)) = some b := (rfl)
theorem z_bt {p q : Rs} : brB (some true) p q = p := (rfl)
theorem z_bf {p q : Rs} : brB (some false) p q = q := (rfl)
theorem z_st {p q : Out} : brS (some true) p q = p := (rfl)
theorem z_sf {p q : Out} : brS (some false) p q = q := (rfl)
theorem z_and : dAnd f g e = bnd (f e) fun w e1 => brB (isB (rs e1 w)) (g e1) (.ok (.d (.bool false)) e1) := (rfl)
theorem z_dor : dOr f g e = bnd (f e) fun w e1 => brB (isB (rs e1 w)) (.ok (.d (.bool true)) e1) (g e1) := (rfl)
theorem z_ite : dIte c f g e = bnd (c e) fun w e1 => brB (isB (rs e1 w)) (f e1) (g e1) := (rfl)
def notO : Option PyData → Option Wv
  | some (.bool b) => some (.d (.bool !b))
  | _ => none
theorem z_not : dNot f e = bnd (f e) fun w1 e1 => optR (notO (rs e1 w1)) e1 := by
  unfold dNot dU1
  congr 1
  funext w1 e1
  congr 1
  cases rs e1 w1 with
  | none => rfl
  | some x => cases x <;> rfl
theorem z_no {b : Bool} : notO (some (.bool b)) = some (.d (.bool !b)) := (rfl)
theorem z_chain {op op' : PyData → PyData → Option Wv} : dChain op op' f g h e = bnd (f e) fun w1 e1 => bnd (g e1) fun w2 e2 =>
  brB (isB ((rs e2 w1).bind fun x => (rs e2 w2).bind fun y => (op x y).bind dat1)) (bnd (h e2) fun w3 e3 => optR ((rs e3 w2).bind fun y => (rs e3 w3).bind fun z => op' y z) e3) (.ok (.d (.bool false)) e2) := (rfl)
theorem z_isi {op : PyData → Option Bool} {ox : Str → Option Bool} : dIsi op ox f e = bnd (f e) fun w e1 => optB (isw op ox e1 w) e1 := (rfl)
theorem z_iw1 {op : PyData → Option Bool} {ox : Str → Option Bool} : isw op ox e (.d x) = op x := (rfl)
theorem z_iw2 {op : PyData → Option Bool} {ox : Str → Option Bool} : isw op ox e (.exc cl') = ox cl' := (rfl)
theorem z_iw3 {op : PyData → Option Bool} {ox : Str → Option Bool} : isw op ox e (.loc i) = (rs e (.loc i)).bind op := (rfl)
theorem z_isN : dIsN f e = bnd (f e) fun w e1 => optB (noneW e1 w) e1 := (rfl)
theorem z_notN : dNotN f e = bnd (f e) fun w e1 => optB ((noneW e1 w).map (!·)) e1 := (rfl)
theorem z_nw1 : noneW e (.d x) = some (isNone x) := (rfl)
theorem z_nw2 : noneW e (.exc cl') = some false := (rfl)
theorem z_mul : dMulA f g e = bnd (f e) fun w1 e1 => bnd (g e1) fun w2 e2 => optR (mulW e2 w1 w2) e2 := (rfl)
theorem z_mw1 : mulW e (.d x) w = (rs e w).bind fun y => mul2 x y := (rfl)
def mulO (xs : List PyData) : Option PyData → Option Wv
  | some (.int k) => if (-(2 ^ 63) ≤ k ∧ k < 2 ^ 63) ∧ xs.length * k.toNat ≤ 1000000 then some (.own (List.replicate k.toNat xs).flatten) else none
  | _ => none
theorem z_mw2 : mulW e (.own xs) w = mulO xs (rs e w) := by
  unfold mulW mulO
  cases rs e w with
  | none => rfl
  | some x => cases x <;> rfl
theorem z_sl {lo hi : Option DE} : dSl f lo hi e = bnd (f e) fun w e1 => dOpt lo (fun l e2 => dOpt hi (fun u e3 => optR ((rs e3 w).bind fun x => opSl x l u) e3) e2) e1 := (rfl)
theorem z_po0 {k : Option Int → En → Rs} : dOpt none k e = k none e := (rfl)
def intO (k : Option Int → En → Rs) (e : En) : Option PyData → Rs
  | some (.int i) => k (some i) e
  | _ => .bad
theorem z_po1 {k : Option Int → En → Rs} : dOpt (some f) k e = bnd (f e) fun w e1 => intO k e1 (rs e1 w) := by
  unfold dOpt intO
  show bnd (f e) _ = _
  congr 1
theorem z_io {k : Option Int → En → Rs} {m : Int} : intO k e (some (.int m)) = k (some m) e := (rfl)
def slO : Option (Option Wv) → Option (List PyData)
  | some (some (.own xs)) => some xs
  | some (some (.brw xs)) => some xs
  | _ => none
theorem z_oa : ownAt e i = slO e[i]? := by
  unfold ownAt slO
  split <;> simp_all
theorem z_so1 : slO (some (some (.own xs))) = some xs := (rfl)
theorem z_so2 : slO (some (some (.brw xs))) = some xs := (rfl)
def slU (i : Nat) (e : En) (ys : List PyData) : Option (Option Wv) → Option En
  | some (some (.own _)) => some (e.set i (some (.own ys)))
  | some (some (.brw _)) => some (e.set i (some (.brw ys)))
  | _ => none
theorem z_up : upo e i ys = slU i e ys e[i]? := by
  unfold upo slU
  split <;> simp_all
theorem z_su1 : slU i e ys (some (some (.own xs))) = some (e.set i (some (.own ys))) := (rfl)
theorem z_su2 : slU i e ys (some (some (.brw xs))) = some (e.set i (some (.brw ys))) := (rfl)
def mutT : Option (PyData × En) → Rs
  | some p => .ok (.d p.1) p.2
  | none => .bad
def mutO (o : Option (List PyData)) (r : Rs) : Rs := match o with
  | none => .bad
  | some _ => r
theorem z_mut {op : List PyData → List PyData → Option (List PyData × PyData)} : dMut i op fs e = mutO (ownAt e i) (bndL (evs fs e) fun ws e1 => mutT ((ownAt e1 i).bind fun xs => (dats ws).bind fun ys => (op xs ys).bind fun p => (upo e1 i p.1).map fun e2 => (p.2, e2))) := by
  unfold dMut mutO
  cases ownAt e i with
  | none => rfl
  | some u =>
    refine congrArg (bndL (evs fs e)) (funext fun ws => funext fun e1 => ?_)
    cases ((ownAt e1 i).bind fun xs => (dats ws).bind fun ys => (op xs ys).bind fun p => (upo e1 i p.1).map fun e2 => (p.2, e2)) <;> rfl
theorem z_mo {r : Rs} : mutO (some xs) r = r := (rfl)
theorem z_mt {p : PyData × En} : mutT (some p) = .ok (.d p.1) p.2 := (rfl)
theorem z_meth {ty : PyData → Bool} {op : PyData → List PyData → Option Wv} : dMt ty op f fs e = bnd (f e) fun w e1 => brB ((rs e1 w).map ty) (bndL (evs fs e1) fun ws e2 => optR ((rs e2 w).bind fun x => (rss e2 ws).bind fun xs => op x xs) e2) .bad := (rfl)
/-! ### statements -/
theorem z_seq : dSeq s t e = bndS (s e) t := (rfl)
theorem z_next : dNext e = .nx e := (rfl)
theorem z_asg : dAsg j f e = bndE (f e) fun w e1 => optS (asgE e1 j w) := by
  unfold dAsg
  congr 1
theorem z_if : dIf c s t e = bndE (c e) fun w e1 => brS (isB (rs e1 w)) (s e1) (t e1) := (rfl)
def retT : Option (Wv × En) → Out
  | some p => .rt p.1 p.2
  | none => .bad
def slM (i : Nat) (e : En) : Option (Option Wv) → Option (Wv × En)
  | some (some (.own xs)) => some (.own xs, e.set i none)
  | some (some (.ot t)) => some (.ot t, e.set i none)
  | some (some (.fo t)) => some (.fo t, e.set i none)
  | some (some (.d x)) => some (.d x, e)
  | _ => none
theorem z_ret : dRet f e = bndE (f e) fun w e1 => retT (mvOut e1 w) := by
  unfold dRet
  congr 1
  funext w e1
  cases mvOut e1 w <;> rfl
theorem z_rt {p : Wv × En} : retT (some p) = .rt p.1 p.2 := (rfl)
theorem z_m1 : mvOut e (.d x) = some (.d x, e) := (rfl)
theorem z_m2 : mvOut e (.own xs) = some (.own xs, e) := (rfl)
theorem z_m3 : mvOut e (.exc cl') = some (.exc cl', e) := (rfl)
theorem z_m5 {t : OT} : mvOut e (.ot t) = some (.ot t, e) := (rfl)
theorem z_m6 {t : FT} : mvOut e (.fo t) = some (.fo t, e) := (rfl)
theorem z_m7 {t : FT} : mvOut e (.ff t) = some (.ff t, e) := (rfl)
theorem z_sm3 {t : OT} : slM i e (some (some (.ot t))) = some (.ot t, e.set i none) := (rfl)
theorem z_sm4 {t : FT} : slM i e (some (some (.fo t))) = some (.fo t, e.set i none) := (rfl)
theorem z_f5 {t : OT} : finR ws (.rt (.ot t) e) = .ok (.ot t) (backs ws e) := (rfl)
theorem z_f6 {t : FT} : finR ws (.rt (.fo t) e) = .ok (.fo t) (backs ws e) := (rfl)
theorem z_f7 {t : FT} : finR ws (.rt (.ff t) e) = .ok (.ff t) (backs ws e) := (rfl)
theorem z_k5 {t : FT} {u : Option Wv} : back1 (.ff t) u = .ff t := (rfl)
theorem z_r4 {t : OT} {r : Wv → List Wv → Rs} : rfR (.ok (.ot t) ws) r e = r (.ot t) ws := (rfl)
theorem z_r5 {t : FT} {r : Wv → List Wv → Rs} : rfR (.ok (.fo t) ws) r e = r (.fo t) ws := (rfl)
theorem z_r6 {t : FT} {r : Wv → List Wv → Rs} : rfR (.ok (.ff t) ws) r e = r (.ff t) ws := (rfl)
theorem z_m4 : mvOut e (.loc i) = slM i e e[i]? := by
  cases q : e[i]? with
  | none => simp only [rs, es, mvOut, q] <;> rfl
  | some u =>
    cases u with
    | none => simp only [rs, es, mvOut, q] <;> rfl
    | some w => cases w <;> simp only [rs, es, mvOut, q] <;> rfl
theorem z_sm1 : slM i e (some (some (.own xs))) = some (.own xs, e.set i none) := (rfl)
theorem z_sm2 : slM i e (some (some (.d x))) = some (.d x, e) := (rfl)
theorem z_drop : dDrop f e = bndE (f e) fun _ e1 => .nx e1 := (rfl)
theorem z_raise : dRaise cl' e = .err cl' e := (rfl)
def hasO (o : Option (List PyData)) (r : Out) : Out := match o with
  | none => .bad
  | some _ => r
theorem z_has : dHas j s e = hasO (ownAt e j) (s e) := by
  unfold dHas hasO
  split
  · rename_i h; rw [h]
  · rename_i h; rw [h]
theorem z_ho {r : Out} : hasO (some xs) r = r := (rfl)
def setO (e : En) (j : Nat) (x : PyData) : Option PyData → Option En
  | some (.int k) => (ownAt e j).bind fun xs => (ixN xs.length k).bind fun n => upo e j (xs.set n x)
  | _ => none
theorem z_seti {fk : DE} : dSetI j fk f e = bndE (esR (f e)) fun w e1 => bndE (fk e1) fun wk e2 => optS ((dat1 w).bind fun x => setO e2 j x (rs e2 wk)) := by
  unfold dSetI
  congr 1
  funext w e1
  congr 1
  funext wk e2
  congr 1
  cases dat1 w with
  | none => rfl
  | some x =>
    show ((rs e2 wk).bind _) = _
    unfold setO
    cases rs e2 wk with
    | none => rfl
    | some y => cases y <;> rfl
theorem z_sI {m : Int} : setO e j x (some (.int m)) = (ownAt e j).bind fun xs => (ixN xs.length m).bind fun n => upo e j (xs.set n x) := (rfl)
/-! ### calls -/
theorem z_fn {N : Nat} : fnD N s ws = finR ws (s (ent N ws)) := (rfl)
theorem z_ent {N : Nat} : ent N ws = ws.map some ++ List.replicate (N - ws.length) none := (rfl)
theorem z_f1 : finR ws (.rt (.d x) e) = .ok (.d x) (backs ws e) := (rfl)
theorem z_f2 : finR ws (.rt (.own xs) e) = .ok (.own xs) (backs ws e) := (rfl)
theorem z_f3 : finR ws (.nx e) = .ok (.d .none) (backs ws e) := (rfl)
theorem z_f4 : finR ws (.err cl' e) = .err cl' (backs ws e) := (rfl)
theorem z_k0 : backs [] e = [] := (rfl)
theorem z_k1 {u : Option Wv} : backs (w :: ws) (u :: e) = back1 w u :: backs ws e := (rfl)
theorem z_k2 {u : Option Wv} : back1 (.d x) u = .d x := (rfl)
theorem z_k3 : back1 (.brw xs) (some (.brw ys)) = .brw ys := (rfl)
theorem z_k4 {u : Option Wv} : back1 (.exc cl') u = .exc cl' := (rfl)
theorem z_call {F : FD} : dCall n F fs e = bndL (evs fs e) fun ws e1 => callV n F ws e1 := (rfl)
theorem z_cv {F : FD} (h : (ws.length == n && ws.all isDat) = true) : callV n F ws e = rfR (F ws) (fun w _ => .ok w e) e := by
  unfold callV
  rw [h]
  rfl
theorem z_r1 {r : Wv → List Wv → Rs} : rfR (.ok (.d x) ws) r e = r (.d x) ws := (rfl)
theorem z_r2 {r : Wv → List Wv → Rs} : rfR (.ok (.own xs) ws) r e = r (.own xs) ws := (rfl)
theorem z_r3 {r : Wv → List Wv → Rs} : rfR (.err cl' ws) r e = .err cl' e := (rfl)
theorem z_callB {F : FD} : dCallB n F fs e = bndL (evs fs e) fun ws e1 => callB n F ws e1 := (rfl)
def cbT (e : En) (i : Nat) : Rf → Rs
  | .ok (.d x) (.brw ys :: _) => esN (upo e i ys) (.d x)
  | .ok (.own x) (.brw ys :: _) => esN (upo e i ys) (.own x)
  | _ => .bad
where esN : Option En → Wv → Rs
  | some e2, w => .ok w e2
  | none, _ => .bad
theorem z_cb {F : FD} {v : Wv} {us : List Wv} (h : ((Wv.loc i :: ws).length == n && ws.all isDat) = true) (ho : ownAt e i = some xs) (hv : F (.brw xs :: ws) = .ok v (.brw ys :: us)) (dv : isDat v = true ∨ ∃ zs, v = .own zs) (hu : upo e i ys = some e') : callB n F (.loc i :: ws) e = .ok v e' := by
  unfold callB
  simp only [h, cond_true, ho, hv]
  rcases dv with dv | ⟨zs, rfl⟩
  · cases v with
    | d x => simp only [hu]
    | exc x => simp only [hu]
    | ff x => simp only [hu]
    | _ => cases dv
  · simp only [hu]
theorem z_dt {b : Bool} : isDat (.d x) = true := (rfl)
end
end Vf
namespace Vf
open PySem PySem.Spec L2
section
variable {xs ys : List PyData} {x y : PyData} {i j : Int} {a b : Bool} {s t : Str} {w : Wv} {ws : List Wv}
theorem q_addI : opAdd (.int i) (.int j) = some (.d (.int (i + j))) := (rfl)
theorem q_addL (h : xs.length + ys.length ≤ 1000000) : opAdd (.list xs) (.list ys) = some (.own (xs ++ ys)) := if_pos h
theorem q_addT (h : xs.length + ys.length ≤ 1000000) : opAdd (.tuple xs) (.tuple ys) = some (.d (.tuple (xs ++ ys))) := if_pos h
theorem q_sub : opSub (.int i) (.int j) = some (.d (.int (i - j))) := (rfl)
theorem q_mul (h : i.natAbs.log2 + j.natAbs.log2 < 1000000) : mul2 (.int i) (.int j) = some (.d (.int (i * j))) := if_pos h
theorem q_mulT (h : xs ≠ [] ∧ xs.length ≤ 1000 ∧ 1 ≤ i ∧ i ≤ 1000) : mul2 (.tuple xs) (.int i) = some (.d (.tuple (List.replicate i.toNat xs).flatten)) := if_pos h
theorem q_mod (h : 0 < j) : opMod (.int i) (.int j) = some (.d (.int (i % j))) := if_pos h
theorem q_div (h : 0 < j ∧ j < 1073741824) : opDiv (.int i) (.int j) = some (.d (.int (i / j))) := if_pos h
theorem q_pow (h : 0 ≤ j ∧ j ≤ 1000000 ∧ i.natAbs < 2 ^ 64) : opPow (.int i) (.int j) = some (.d (.int (i ^ j.toNat))) := if_pos h
theorem q_neg : opNeg (.int i) = some (.d (.int (-i))) := (rfl)
theorem q_cmp {p : Int → Int → Bool} : opCmpI p (.int i) (.int j) = some (.d (.bool (p i j))) := (rfl)
theorem q_ixL : opIx (.list xs) (.int i) = (atI xs i).map .d := (rfl)
theorem q_ixT : opIx (.tuple xs) (.int i) = (atI xs i).map .d := (rfl)
theorem q_at {n : Nat} {α : Type} {l : List α} {u : α} (h : l[n]? = some u) : atI l (n : Int) = some u := by
  have hl := (List.getElem?_eq_some_iff.mp h).1
  unfold atI ixN
  rw [if_pos (by omega), if_pos (by omega)]
  exact h
theorem q_at0 {α : Type} {l : List α} {u : α} : atI (u :: l) 0 = some u := q_at (n := 0) rfl
theorem q_ixn0 {n : Nat} (h : 0 < n) : ixN n 0 = some 0 := by
  unfold ixN
  rw [if_pos (Int.le_refl _), if_pos (by omega)]
  rfl
theorem q_lenL : opLen [.list xs] = some (.d (.int xs.length)) := (rfl)
theorem q_lenT : opLen [.tuple xs] = some (.d (.int xs.length)) := (rfl)
theorem q_int : opInt [.int i] = some (.d (.int i)) := (rfl)
theorem q_max : opMax [.int i, .int j] = some (.d (.int (if j > i then j else i))) := (rfl)
theorem q_min : opMin [.int i, .int j] = some (.d (.int (if j < i then j else i))) := (rfl)
theorem q_tupL : opTuple [.list xs] = some (.d (.tuple xs)) := (rfl)
theorem q_lstT : opList [.tuple xs] = some (.own xs) := (rfl)
theorem q_isB : opIsB (.bool a) (.bool b) = some (.d (.bool (decide (a = b)))) := (rfl)
theorem q_all {bs : List Bool} (h : bools xs = some bs) : opAll [.list xs] = some (.d (.bool (bs.all id))) := by
  show (bools xs).map _ = _
  rw [h]
  rfl
theorem q_repr (h : rpOk x = true) : opRepr [x] = some (.d (.str x.shown)) := if_pos h
theorem q_slL {lo hi : Option Int} : opSl (.list xs) lo hi = some (.own (cutD xs lo hi)) := (rfl)
theorem q_slT {lo hi : Option Int} : opSl (.tuple xs) lo hi = some (.d (.tuple (cutD xs lo hi))) := (rfl)
theorem q_eqS : opEq (.str s) (.str t) = some (.d (.bool (decide (s = t)))) := (rfl)
theorem q_neS : opNe (.str s) (.str t) = some (.d (.bool (!decide (s = t)))) := (rfl)
theorem q_eq (h : SeqAt.shaped x = true) (k : SeqAt.shaped y = true) : ∃ b, opEq x y = some (.d (.bool b)) := by
  unfold opEq eqD
  split
  · exact ⟨_, rfl⟩
  · rw [h, k]
    exact ⟨_, rfl⟩
theorem q_ne (h : SeqAt.shaped x = true) (k : SeqAt.shaped y = true) : ∃ b, opNe x y = some (.d (.bool b)) := by
  unfold opNe eqD
  split
  · exact ⟨_, rfl⟩
  · rw [h, k]
    exact ⟨_, rfl⟩
theorem q_eqI : opEq (.int i) (.int j) = some (.d (.bool (decide (i = j)))) := by
  have e : PyData.eqv (.int i) (.int j) = decide (i = j) := by
    simp only [PyData.eqv]
    rfl
  show ((some (PyData.eqv (.int i) (.int j)) : Option Bool).map fun b => Wv.d (.bool b)) = _
  rw [e]
  rfl
theorem q_neI : opNe (.int i) (.int j) = some (.d (.bool (!decide (i = j)))) := by
  have e : PyData.eqv (.int i) (.int j) = decide (i = j) := by
    simp only [PyData.eqv]
    rfl
  show ((some (PyData.eqv (.int i) (.int j)) : Option Bool).map fun b => Wv.d (.bool !b)) = _
  rw [e]
  rfl
theorem q_neB : opNe (.bool a) (.bool b) = some (.d (.bool (!decide (a = b)))) := by
  cases a <;> cases b <;> rfl
theorem q_eqB : opEq (.bool a) (.bool b) = some (.d (.bool (decide (a = b)))) := by
  cases a <;> cases b <;> rfl
theorem q_tn {k : Nat} {e : En} : tgName k x e = setW e k (.d x) := (rfl)
end
end Vf
namespace Vf
open PySem PySem.Spec L2
section
variable {fs : List DE} {s : DS} {f : DE} {e : En} {w : Wv} {ws : List Wv} {xs : List PyData} {x : PyData} {tg : PyData → En → Option En} {k : List Wv → En → Out} {ks : En → Out} {kp : List PyData → Out} {c : Str} {j : Int}
theorem z_forR : dForR fs tg s e = bndLS (evs fs e) fun ws e1 => outR ((rss e1 ws).bind rngOf) fun xs => forGo tg s xs e1 := (rfl)
theorem z_for : dFor f tg s e = bndE (esR (f e)) fun w e1 => outL ((dat1 w).bind items) fun xs => forGo tg s xs e1 := (rfl)
theorem z_bls1 : bndLS (.ok ws e) k = k ws e := (rfl)
theorem z_outR {p : Int × Nat} : outR (some p) kp = kp (rngD p.1 p.2) := (rfl)
theorem z_fg0 : forGo tg s [] e = .nx e := (rfl)
theorem z_fg1 : forGo tg s (x :: xs) e = outO (tg x e) fun e1 => loopS (s e1) (forGo tg s xs) := (rfl)
theorem z_lp1 : loopS (.nx e) ks = ks e := (rfl)
theorem z_lp2 : loopS (.rt w e) ks = .rt w e := (rfl)
theorem z_lp3 : loopS (.err c e) ks = .err c e := (rfl)
theorem z_it1 : items (.list xs) = some xs := (rfl)
theorem z_it2 : items (.tuple xs) = some xs := (rfl)
theorem q_rng (h : -(2 ^ 62) ≤ j ∧ j < 2 ^ 62) : rngOf [.int j] = some (0, j.toNat) := if_pos h
theorem z_rn0 {lo : Int} : rngD lo 0 = [] := (rfl)
theorem z_rn1 {lo : Int} {n : Nat} : rngD lo (n + 1) = .int lo :: rngD (lo + 1) n := (rfl)
end
end Vf
/-! Sizes of what is shown; products; comprehensions whose items leave all as it was. -/
namespace Vf
open PySem PySem.Spec L2
theorem log_le {a n : Nat} (h : a < 2 ^ n) : a.log2 ≤ n := by
  by_cases z : a = 0
  · subst z
    rw [Nat.log2_zero]
    exact Nat.zero_le _
  · exact Nat.le_of_lt ((Nat.log2_lt z).mpr h)
theorem mul_ok {i j : Int} (n m : Nat) (hi : i.natAbs < 2 ^ n) (hj : j.natAbs < 2 ^ m) (h : n + m < 1000000 := by decide) : mul2 (.int i) (.int j) = some (.d (.int (i * j))) := by
  have a := log_le hi
  have b := log_le hj
  exact q_mul (by omega)
/-! ### small data -/
def nice (k L : Nat) (d : PyData) : Bool := d.showable && (d.canLay0 && (!d.hasDict && (decide (d.depth ≤ k) && decide (d.shown.length ≤ L))))
structure Nice (k L : Nat) (x : PyData) : Prop where
  s : x.showable = true
  c : x.canLay0 = true
  h : x.hasDict = false
  d : x.depth ≤ k
  l : x.shown.length ≤ L
theorem nice_ok {k L : Nat} {d : PyData} (h : nice k L d = true) : Nice k L d := by
  unfold nice at h
  simp only [Bool.and_eq_true, decide_eq_true_eq, Bool.not_eq_true'] at h
  obtain ⟨a, b, c, d, e⟩ := h
  exact ⟨a, b, c, d, e⟩
theorem Nice.mono {k L k' L' : Nat} {d : PyData} (h : Nice k L d) (hk : k ≤ k') (hL : L ≤ L') : Nice k' L' d := ⟨h.s, h.c, h.h, Nat.le_trans h.d hk, Nat.le_trans h.l hL⟩
structure NiceA (k L : Nat) (ds : List PyData) : Prop where
  s : PyData.showableAll ds = true
  c : PyData.canLayAll0 ds = true
  h : PyData.hasDictAll ds = false
  d : PyData.depthAll ds ≤ k
  l : ((PyData.shownAll ds).map (·.length)).sum ≤ ds.length * L
  n : (PyData.shownAll ds).length = ds.length
theorem nice_all {k L : Nat} : ∀ {ds : List PyData}, (∀ x ∈ ds, Nice k L x) → NiceA k L ds
  | [], _ => ⟨rfl, rfl, rfl, Nat.zero_le _, Nat.zero_le _, rfl⟩
  | d :: ds, h => by
    have a := h d List.mem_cons_self
    have b := nice_all fun x hx => h x (List.mem_cons_of_mem _ hx)
    refine ⟨?_, ?_, ?_, ?_, ?_, ?_⟩
    · show (d.showable && PyData.showableAll ds) = true
      rw [a.s, b.s]; rfl
    · show (d.canLay0 && PyData.canLayAll0 ds) = true
      rw [a.c, b.c]; rfl
    · show (d.hasDict || PyData.hasDictAll ds) = false
      rw [a.h, b.h]; rfl
    · show max d.depth (PyData.depthAll ds) ≤ k
      exact Nat.max_le.mpr ⟨a.d, b.d⟩
    · show (d.shown.length :: (PyData.shownAll ds).map (·.length)).sum ≤ (ds.length + 1) * L
      rw [List.sum_cons, Nat.add_mul, Nat.one_mul, Nat.add_comm]
      exact Nat.add_le_add b.l a.l
    · show (PyData.shownAll ds).length + 1 = ds.length + 1
      rw [b.n]
theorem nice_list {k L n : Nat} {ds : List PyData} (h : ∀ x ∈ ds, Nice k L x) (hn : ds.length ≤ n) : Nice (k + 1) (n * (L + 2) + 3) (.list ds) := by
  have a := nice_all h
  refine ⟨a.s, a.c, a.h, Nat.succ_le_succ a.d, ?_⟩
  have b := listText_len_le (PyData.shownAll ds)
  have e : (PyData.list ds).shown = listText (PyData.shownAll ds) := by simp only [PyData.shown]
  rw [e]
  have c := a.l
  have d : ds.length * (L + 2) ≤ n * (L + 2) := Nat.mul_le_mul_right _ hn
  rw [Nat.mul_add] at d
  rw [a.n] at b
  omega
theorem nice_tup {k L n : Nat} {ds : List PyData} (h : ∀ x ∈ ds, Nice k L x) (hn : ds.length ≤ n) : Nice (k + 1) (n * (L + 2) + 3) (.tuple ds) := by
  have a := nice_all h
  refine ⟨a.s, a.c, a.h, Nat.succ_le_succ a.d, ?_⟩
  have b := tupleText_len_le (PyData.shownAll ds)
  have e : (PyData.tuple ds).shown = tupleText (PyData.shownAll ds) := by simp only [PyData.shown]
  rw [e]
  have c := a.l
  have d : ds.length * (L + 2) ≤ n * (L + 2) := Nat.mul_le_mul_right _ hn
  rw [Nat.mul_add] at d
  rw [a.n] at b
  omega
theorem Nice.shaped {k L : Nat} {d : PyData} (h : Nice k L d) (hk : k ≤ 64) : SeqAt.shaped d = true := by
  unfold SeqAt.shaped
  rw [h.c, decide_eq_true (Nat.le_trans h.d hk)]
  rfl
theorem Nice.rp {k L : Nat} {d : PyData} (h : Nice k L d) (hk : k ≤ 64) (hL : L ≤ 1000000) : rpOk d = true := by
  unfold rpOk
  rw [h.s, h.shaped hk, h.h]
  exact decide_eq_true (Nat.le_trans h.l hL)
/-! ### comprehensions -/
theorem z_okr {w : Wv} {e : En} : okR (.ok w e) = some (w, e) := (rfl)
theorem setSet {α : Type} {l : List α} {i : Nat} {a b : α} : (l.set i a).set i b = l.set i b := List.set_set a
theorem lc_pure {i : Nat} {el : DE} {g : PyData → PyData} {e : En} (free : e[i]? = some none) : ∀ (xs acc : List PyData), acc.length + xs.length ≤ 1000000 → (∀ x ∈ xs, esR (el (e.set i (some (.d x)))) = .ok (.d (g x)) (e.set i (some (.d x)))) →
    lcGo [i] (tgName i) (dC (.bool true)) el xs e acc = some (acc ++ xs.map g, e)
  | [], acc, _, _ => by
    rw [List.map_nil, List.append_nil]
    rfl
  | x :: xs, acc, few, h => by
    have l : i < e.length := (List.getElem?_eq_some_iff.mp free).1
    have t : tgName i x e = some (e.set i (some (.d x))) := by
      unfold tgName setW
      rw [free]
      rfl
    have back : wpE (e.set i (some (.d x))) [i] = e := by
      show (e.set i (some (.d x))).set i none = e
      rw [setSet]
      apply List.ext_getElem?
      intro j
      by_cases hj : j = i
      · rw [hj, List.getElem?_set_self l, free]
      · rw [List.getElem?_set_ne (Ne.symm hj)]
    have hx := h x List.mem_cons_self
    unfold lcGo
    rw [t]
    simp only [z_ob, z_c, z_okr, z_rs1, z_isB, cond_true, hx, z_d1]
    rw [List.length_cons] at few
    rw [if_pos (by omega), back, lc_pure free xs (acc ++ [g x]) (by rw [List.length_append]; simp only [List.length_cons, List.length_nil]; omega) fun y hy => h y (List.mem_cons_of_mem _ hy), List.append_assoc]
    rfl
theorem dlc_pure {i : Nat} {f el : DE} {g : PyData → PyData} {e : En} {src : PyData} {xs : List PyData} (hf : esR (f e) = .ok (.d src) e) (hs : items src = some xs) (free : e[i]? = some none) (few : xs.length ≤ 1000000)
    (h : ∀ x ∈ xs, esR (el (e.set i (some (.d x)))) = .ok (.d (g x)) (e.set i (some (.d x)))) : dLc f [i] (tgName i) (dC (.bool true)) el e = .ok (.own (xs.map g)) e := by
  have l : i < e.length := (List.getElem?_eq_some_iff.mp free).1
  have back : ∀ u : En, u = e → rst e u [i] = e := fun u hu => by
    subst hu
    show u.set i (u.getD i none) = u
    rw [List.getD_eq_getElem?_getD, free]
    apply List.ext_getElem?
    intro j
    by_cases hj : j = i
    · rw [hj, List.getElem?_set_self l, free]; rfl
    · rw [List.getElem?_set_ne (Ne.symm hj)]
  have w : wpE e [i] = e := by
    show e.set i none = e
    apply List.ext_getElem?
    intro j
    by_cases hj : j = i
    · rw [hj, List.getElem?_set_self l, free]
    · rw [List.getElem?_set_ne (Ne.symm hj)]
  have no : noOwn e [i] = true := by
    show (notOwn e[i]? && true) = true
    rw [free]
    rfl
  unfold dLc
  rw [hf]
  show outC (bif noOwn e [i] then (dat1 (.d src)).bind _ else none) e [i] = _
  rw [no]
  show outC ((items src).bind _) e [i] = _
  rw [hs]
  show outC (lcGo [i] (tgName i) (dC (.bool true)) el xs (wpE e [i]) []) e [i] = _
  rw [w, lc_pure free xs [] (by simpa using few) h]
  show Rs.ok (.own ([] ++ xs.map g)) (rst e e [i]) = _
  rw [back e rfl, List.nil_append]
theorem for_R {fs : List DE} {tg : PyData → En → Option En} {s : DS} {e e1 : En} {j : Int} {c : Nat} (h : evs fs e = .ok [.d (.int j)] e1) (rg : rngOf [.int j] = some (0, c)) : dForR fs tg s e = forGo tg s (rngD 0 c) e1 := by
  rw [z_forR, h, z_bls1, z_rss1, z_rss0, z_rs1, z_ob, z_ob, z_ob, rg, z_outR]
theorem mem_rng : ∀ {n : Nat} {lo : Int} {x : PyData}, x ∈ rngD lo n → ∃ k : Int, x = .int k ∧ lo ≤ k ∧ k < lo + n
  | 0, _, _, h => nomatch h
  | n + 1, lo, x, h => by
    rcases List.mem_cons.mp (show x ∈ PyData.int lo :: rngD (lo + 1) n from h) with z | z
    · exact ⟨lo, z, Int.le_refl _, by omega⟩
    · obtain ⟨k, e, a, b⟩ := mem_rng z
      exact ⟨k, e, by omega, by omega⟩
theorem dlcR_pure {i c : Nat} {f el : DE} {g : PyData → PyData} {e : En} (hf : f e = .ok (.d (.int (c : Int))) e) (rg : rngOf [.int (c : Int)] = some (0, c)) (free : e[i]? = some none) (few : c ≤ 1000000)
    (h : ∀ x ∈ rngD 0 c, esR (el (e.set i (some (.d x)))) = .ok (.d (g x)) (e.set i (some (.d x)))) : dLcR f [i] (tgName i) (dC (.bool true)) el e = .ok (.own ((rngD 0 c).map g)) e := by
  have l : i < e.length := (List.getElem?_eq_some_iff.mp free).1
  have back : rst e e [i] = e := by
    show e.set i (e.getD i none) = e
    rw [List.getD_eq_getElem?_getD, free]
    apply List.ext_getElem?
    intro j
    by_cases hj : j = i
    · rw [hj, List.getElem?_set_self l, free]; rfl
    · rw [List.getElem?_set_ne (Ne.symm hj)]
  have w : wpE e [i] = e := by
    show e.set i none = e
    apply List.ext_getElem?
    intro j
    by_cases hj : j = i
    · rw [hj, List.getElem?_set_self l, free]
    · rw [List.getElem?_set_ne (Ne.symm hj)]
  have no : noOwn e [i] = true := by
    show (notOwn e[i]? && true) = true
    rw [free]
    rfl
  unfold dLcR
  rw [hf, z_b1, no, cond_true, z_rs1, z_ob, rg, z_ob]
  show outC (lcGo [i] (tgName i) (dC (.bool true)) el (rngD 0 c) (wpE e [i]) []) e [i] = _
  rw [w, lc_pure free (rngD 0 c) [] (by rw [rngD_len]; simpa using few) h]
  show Rs.ok (.own ([] ++ (rngD 0 c).map g)) (rst e e [i]) = _
  rw [back, List.nil_append]
/-- a comprehension that leaves some out -/
theorem lc_some {i : Nat} {t el : DE} {e : En} (free : e[i]? = some none) : ∀ (xs acc : List PyData), acc.length + xs.length ≤ 1000000 →
    (∀ x ∈ xs, ∃ b, t (e.set i (some (.d x))) = .ok (.d (.bool b)) (e.set i (some (.d x)))) → (∀ x ∈ xs, esR (el (e.set i (some (.d x)))) = .ok (.d x) (e.set i (some (.d x)))) →
    ∃ R : List PyData, (∀ r ∈ R, r ∈ xs) ∧ lcGo [i] (tgName i) t el xs e acc = some (acc ++ R, e)
  | [], acc, _, _, _ => ⟨[], fun _ h => (nomatch h), by rw [List.append_nil]; rfl⟩
  | x :: xs, acc, few, ht, h => by
    have l : i < e.length := (List.getElem?_eq_some_iff.mp free).1
    have tg : tgName i x e = some (e.set i (some (.d x))) := by
      unfold tgName setW
      rw [free]
      rfl
    have back : wpE (e.set i (some (.d x))) [i] = e := by
      show (e.set i (some (.d x))).set i none = e
      rw [setSet]
      apply List.ext_getElem?
      intro j
      by_cases hj : j = i
      · rw [hj, List.getElem?_set_self l, free]
      · rw [List.getElem?_set_ne (Ne.symm hj)]
    obtain ⟨b, hb⟩ := ht x List.mem_cons_self
    have hx := h x List.mem_cons_self
    rw [List.length_cons] at few
    have ht' : ∀ x ∈ xs, _ := fun y hy => ht y (List.mem_cons_of_mem _ hy)
    have h' : ∀ x ∈ xs, _ := fun y hy => h y (List.mem_cons_of_mem _ hy)
    cases b with
    | false =>
      obtain ⟨R, h1, h2⟩ := lc_some free xs acc (by omega) ht' h'
      refine ⟨R, fun r hr => List.mem_cons_of_mem _ (h1 r hr), ?_⟩
      unfold lcGo
      rw [tg]
      simp only [z_ob, hb, z_okr, z_rs1, z_isB, cond_false, back]
      exact h2
    | true =>
      obtain ⟨R, h1, h2⟩ := lc_some free xs (acc ++ [x]) (by rw [List.length_append]; simp only [List.length_cons, List.length_nil]; omega) ht' h'
      refine ⟨x :: R, fun r hr => ?_, ?_⟩
      · rcases List.mem_cons.mp hr with z | z
        · rw [z]; exact List.mem_cons_self
        · exact List.mem_cons_of_mem _ (h1 r z)
      unfold lcGo
      rw [tg]
      simp only [z_ob, hb, z_okr, z_rs1, z_isB, cond_true, hx, z_d1, back]
      rw [if_pos (by omega), h2, List.append_assoc]
      rfl
theorem dlc_some {i : Nat} {f t el : DE} {e0 e : En} {src : PyData} {xs : List PyData} (hf : esR (f e0) = .ok (.d src) e) (hs : items src = some xs) (free : e[i]? = some none) (few : xs.length ≤ 1000000)
    (ht : ∀ x ∈ xs, ∃ b, t (e.set i (some (.d x))) = .ok (.d (.bool b)) (e.set i (some (.d x)))) (h : ∀ x ∈ xs, esR (el (e.set i (some (.d x)))) = .ok (.d x) (e.set i (some (.d x)))) :
    ∃ R : List PyData, (∀ r ∈ R, r ∈ xs) ∧ dLc f [i] (tgName i) t el e0 = .ok (.own R) e := by
  have l : i < e.length := (List.getElem?_eq_some_iff.mp free).1
  have back : rst e e [i] = e := by
    show e.set i (e.getD i none) = e
    rw [List.getD_eq_getElem?_getD, free]
    apply List.ext_getElem?
    intro j
    by_cases hj : j = i
    · rw [hj, List.getElem?_set_self l, free]; rfl
    · rw [List.getElem?_set_ne (Ne.symm hj)]
  have w : wpE e [i] = e := by
    show e.set i none = e
    apply List.ext_getElem?
    intro j
    by_cases hj : j = i
    · rw [hj, List.getElem?_set_self l, free]
    · rw [List.getElem?_set_ne (Ne.symm hj)]
  have no : noOwn e [i] = true := by
    show (notOwn e[i]? && true) = true
    rw [free]
    rfl
  obtain ⟨R, h1, h2⟩ := lc_some free xs [] (by simpa using few) ht h
  refine ⟨R, h1, ?_⟩
  unfold dLc
  rw [hf, z_b1, no, cond_true, z_d1, z_ob, hs, z_ob, w, h2]
  show Rs.ok (.own ([] ++ R)) (rst e e [i]) = _
  rw [back, List.nil_append]
end Vf
/-! Words for k03 to k05: s.startswith, s.endswith. -/
namespace Vf
open PySem PySem.Spec L2
open PyProof.Rows hiding St
section
variable {K : PySem.W.Frag} {F H : Hp} {v : V}
theorem ty_str : ∀ F H v x, Ex F H → DH K F H v x → isStr x = true → tyV K "str" v H := fun F H v x _ d h => by
  cases x with
  | str z =>
    rw [dh_str d]
    exact (rfl : "str" = "str")
  | _ => cases h
def opStarts : PyData → List PyData → Option Wv
  | .str a, [.str b] => some (.d (.bool (Txt.startswith a b)))
  | _, _ => none
def opEnds : PyData → List PyData → Option Wv
  | .str a, [.str b] => some (.d (.bool (Txt.endswith a b)))
  | _, _ => none
theorem hr_starts : OpM K "str" opStarts (fun x xs H Q => ∃ a b, x = V.str a ∧ xs = [V.str b] ∧ Q (.bl (Txt.startswith a b)) H) := by
  intro F H v x vs xs w Q hx dv dvs q k
  unfold opStarts at q
  split at q
  · cases q
    obtain ⟨u, rfl, d1⟩ := dhs1 dvs
    rw [dh_str dv, dh_str d1]
    exact ⟨_, _, rfl, rfl, k _ _ (new_dat (.bl _))⟩
  · cases q
theorem hr_ends : OpM K "str" opEnds (fun x xs H Q => ∃ a b, x = V.str a ∧ xs = [V.str b] ∧ Q (.bl (Txt.endswith a b)) H) := by
  intro F H v x vs xs w Q hx dv dvs q k
  unfold opEnds at q
  split at q
  · cases q
    obtain ⟨u, rfl, d1⟩ := dhs1 dvs
    rw [dh_str dv, dh_str d1]
    exact ⟨_, _, rfl, rfl, k _ _ (new_dat (.bl _))⟩
  · cases q
end
end Vf
/-! A def that hands back a new tuple of two, the first perhaps a list that nobody else names; a, b = f(..). -/
namespace Vf
open PySem PySem.Spec L2
open PyProof.Rows hiding St
inductive Rp where
  | ok (w : Wv) (y : PyData)
  | err (c : Str)
  | bad
abbrev FP := List Wv → Rp
/-- behind a call that changed nothing of ours -/
structure Beh (F H F' H' : Hp) : Prop where
  sub : Ex F F'
  ex : Ex F' H'
  keep : ∀ a o, H a = some o → H' a = some o
  grow : ∀ a, F' a ≠ none → F a ≠ none ∨ H a = none
def PV (K : PySem.W.Frag) (F' H' : Hp) (new : Addr → Prop) (v : V) : Wv → Prop
  | .d x => Dp K F' v x
  | .own xs => ∃ p vs, v = V.ref p ∧ F' p = none ∧ H' p = some (.lst vs) ∧ DpAll K F' vs xs ∧ new p
  | _ => False
def FGoP (K : PySem.W.Frag) (r : Rp) (F H : Hp) (Q : VK) (E : XK) : Prop := match r with
  | .ok w y => ∀ t v1 v2 H' F', Beh F H F' H' → F' t = some (.tup [v1, v2]) → PV K F' H' (fun p => H p = none) v1 w → Dp K F' v2 y → Q (.ref t) H'
  | .err c => ∀ H' F', Beh F H F' H' → E (cl K c) none H'
  | .bad => False
def spP (K : PySem.W.Frag) (n : Nat) (f : FP) : Sp := fun vs H Q E => vs.length = n ∧ ∃ F ws, ws.length = n ∧ ws.all isDat = true ∧ Rel K F H (vs.map some) (ws.map some) ∧ FGoP K (f ws) F H Q E
/-! ### its body -/
inductive OutP where
  | rp (w : Wv) (y : PyData)
  | err (c : Str)
  | bad
abbrev DP := En → OutP
def bndP (o : Out) (k : DP) : OutP := match o with
  | .nx e => k e
  | .err c _ => .err c
  | _ => .bad
def SGoP (K : PySem.W.Frag) (W : WX) (o : OutP) (σ : St) (e : En) (F H : Hp) (D : Ends) : Prop := match o with
  | .rp w y => ∀ σ' e' t v1 v2 H' F', Stp σ e F H σ' e' F' H' → Ex F' H' → F' t = some (.tup [v1, v2]) → PV K F' H' (fun p => Owned H σ e p ∨ H p = none) v1 w → Dp K F' v2 y → D.rt (.ref t) H'
  | .err c => ∀ σ' e' H' F', Rel K F' H' σ' e' → Stp σ e F H σ' e' F' H' → W (cl K c) none σ' H'
  | .bad => False
def tDSP (K : PySem.W.Frag) (W : WX) (f : DP) : TS := fun D σ H => ∃ F e, Rel K F H σ e ∧ SGoP K W (f e) σ e F H D
def dSeqP (s : DS) (t : DP) : DP := fun e => bndP (s e) t
section
variable {K : PySem.W.Frag} {F H F1 H1 : Hp} {σ σ1 : St} {e e1 : En} {W : WX} {D : Ends}
theorem PV.imp {F' H' : Hp} {A B : Addr → Prop} {v : V} {w : Wv} (h : PV K F' H' A v w) (k : ∀ p, A p → B p) : PV K F' H' B v w := by
  cases w with
  | d x => exact h
  | own xs =>
    obtain ⟨p, vs, a, b, c, d, n⟩ := h
    exact ⟨p, vs, a, b, c, d, k p n⟩
  | _ => exact h.elim
theorem SGoP.later {o : OutP} (S : Stp σ e F H σ1 e1 F1 H1) (h : SGoP K W o σ e F H D) : SGoP K W o σ1 e1 F1 H1 D := by
  cases o with
  | rp w y =>
    intro σ' e' t v1 v2 H' F' S' x ft pv dy
    refine h σ' e' t v1 v2 H' F' (S.tr S') x ft (pv.imp fun p z => ?_) dy
    rcases z with z | z
    · exact S.shr p z
    · refine .inr ?_
      cases q : H p with
      | none => rfl
      | some o => exact absurd z (S.there p (by rw [q]; exact fun z => nomatch z))
  | err c => exact fun σ' e' H' F' R S' => h σ' e' H' F' R (S.tr S')
  | bad => exact h
end
section
variable {X : Cx} {W : WX} {st : Stmt} {rest : List Stmt} {s : DS} {t : DP} {a b : Expr} {fa fb : DE} {pos p2 : Pos}
theorem pss_p_cons (h1 : PS X st (tDS X.K W s)) (h2 : PSs X rest (tDSP X.K W t)) : PSs X (st :: rest) (tDSP X.K W (dSeqP s t)) := by
  refine PSs.to (pss_cons h1 h2) ?_
  rintro D σ H ⟨F, e, R, h⟩
  refine ⟨F, e, R, ?_⟩
  have h : SGoP X.K W (bndP (s e) t) σ e F H D := h
  cases q : s e with
  | nx e1 =>
    rw [q] at h
    exact fun σ1 H1 F1 R1 S1 => ⟨F1, e1, R1, SGoP.later S1 h⟩
  | err c e1 =>
    rw [q] at h
    exact fun σ1 H1 F1 R1 S1 => h σ1 e1 H1 F1 R1 S1
  | rt w e1 => rw [q] at h; exact h.elim
  | bk e1 => rw [q] at h; exact h.elim
  | ct e1 => rw [q] at h; exact h.elim
  | bad => rw [q] at h; exact h.elim
def slP : Option (Option Wv) → Option Wv
  | some (some (.own xs)) => some (.own xs)
  | some (some (.d x)) => some (.d x)
  | _ => none
def firstP (e : En) : Wv → Option Wv
  | .d x => some (.d x)
  | .own xs => some (.own xs)
  | .loc i => slP e[i]?
  | _ => none
def pairP (e : En) (w1 : Wv) : Wv → OutP
  | .d y => (match firstP e w1 with
    | some w => .rp w y
    | none => .bad)
  | _ => .bad
def outP (e : En) : List Wv → OutP
  | w1 :: w2 :: [] => pairP e w1 w2
  | _ => .bad
def bndLP (r : RsL) (k : List Wv → En → OutP) : OutP := match r with
  | .ok ws e => k ws e
  | .err c _ => .err c
  | .bad => .bad
def dRetP (fa fb : DE) : DP := fun e => bndLP (evs [fa, fb] e) fun ws e1 => outP e1 ws
theorem firstP_ok {K : PySem.W.Frag} {F H F0 H0 : Hp} {σ : St} {e e0 : En} {v : V} {w w' : Wv} {p : Addr} {o : HO} (R : Rel K F H σ e) (S : Stp σ e0 F0 H0 σ e F H) (V1 : VV K F H σ e v w) (N1 : Nw H0 H v w) (hp : H p = none) (q : firstP e w = some w') :
    PV K (upd F p o) (upd H p o) (fun a => Owned H0 σ e0 a ∨ H0 a = none) v w' := by
  have fp := ex_none R.ex hp
  have x1 : Ex F (upd F p o) := Ex.new fp
  have own : ∀ xs : List PyData, (∃ a vs, v = V.ref a ∧ F a = none ∧ H a = some (.lst vs) ∧ DpAll K F vs xs ∧ (Owned H0 σ e0 a ∨ H0 a = none)) → PV K (upd F p o) (upd H p o) (fun a => Owned H0 σ e0 a ∨ H0 a = none) v (.own xs) := by
    rintro xs ⟨a, vs, rfl, h1, h2, h3, h4⟩
    have na : a ≠ p := ne_of_none h2 hp
    exact ⟨a, vs, rfl, by rw [upd_ne na]; exact h1, by rw [upd_ne na]; exact h2, dpa_ex x1 _ _ h3, h4⟩
  cases w with
  | d x =>
    cases q
    exact dp_ex x1 _ _ V1
  | own xs =>
    cases q
    obtain ⟨⟨a, vs, rfl, h1, h2, h3⟩, _⟩ := V1
    exact own xs ⟨a, vs, rfl, h1, h2, h3, .inr (N1 a rfl)⟩
  | loc i =>
    have hv : σ[i]? = some (some v) := V1
    have q : slP e[i]? = some w' := q
    cases he : e[i]? with
    | none => rw [he] at q; cases q
    | some u =>
      cases u with
      | none => rw [he] at q; cases q
      | some u =>
        obtain ⟨v', ev, r⟩ := R.at_ i u he
        rw [hv] at ev
        cases ev
        rw [he] at q
        cases u with
        | d x => cases q; exact dp_ex x1 _ _ r
        | own xs =>
          cases q
          obtain ⟨a, vs, rfl, h1, h2, h3⟩ := r
          exact own xs ⟨a, vs, rfl, h1, h2, h3, S.shr a ⟨i, _, _, he, hv, List.mem_singleton.mpr rfl⟩⟩
        | _ => cases q
  | _ => cases q
theorem pss_p_ret {k : Nat} (ha : PE X a (tD X.K W fa)) (hb : PE X b (tD X.K W fb)) (h1 : starEach [b] X.env = (false, eval b X.env) :: starEach [] X.env := by rfl) (h2 : starEach [a, b] X.env = (false, eval a X.env) :: starEach [b] X.env := by rfl) :
    PSs X [.Return (some (.Tuple [a, b] k p2)) pos] (tDSP X.K W (dRetP fa fb)) := by
  refine PSs.to (pss_cons (ps_ret (pe_tup (pd_cons ha (pd_cons hb pd_nil h1) h2))) pss_nil) ?_
  rintro D σ H ⟨F, e, R, h⟩
  refine ⟨F, e, R, ?_⟩
  have h : SGoP X.K W (bndLP (evs [fa, fb] e) fun ws e1 => outP e1 ws) σ e F H D := h
  cases q : evs [fa, fb] e with
  | bad => rw [q] at h; exact h
  | err c e1 =>
    rw [q] at h
    exact fun H' F' R' S' => h σ e1 H' F' R' S'
  | ok ws e1 =>
    rw [q] at h
    have h : SGoP X.K W (outP e1 ws) σ e F H D := h
    intro vs H1 F1 R1 S1 V1 N1
    cases V1 with
    | nil => exact h.elim
    | cons A1 V1 =>
      cases V1 with
      | nil => exact h.elim
      | cons A2 V1 =>
        cases V1 with
        | cons _ _ => exact h.elim
        | nil =>
          rename_i v1 w1 v2 w2 _
          cases w2 with
          | d y =>
            have h : SGoP X.K W (match firstP e1 w1 with
              | some w => .rp w y
              | none => .bad) σ e F H D := h
            cases q1 : firstP e1 w1 with
            | none => rw [q1] at h; exact h.elim
            | some w =>
              rw [q1] at h
              cases N1 with
              | cons n1 _ _ =>
                refine ⟨by show 2 ≤ sizeLine; rw [sizeLine_eq]; decide, fun p hp => ?_⟩
                obtain ⟨R2, S2⟩ := rel_more R1 hp (.tup [v1, v2])
                exact h σ e1 p v1 v2 _ _ (S1.tr S2) R2.ex upd_same (firstP_ok R1 S1 A1 n1 hp q1) (dp_ex S2.sub _ _ A2)
          | _ => exact h.elim

/-! ### the def, its call -/
def fnP (N : Nat) (s : DP) : FP := fun ws => match s (ent N ws) with
  | .rp w y => .ok w y
  | .err c => .err c
  | .bad => .bad
theorem body_readP {K : PySem.W.Frag} {N : List Str} {s : DP} {vs : List V} {H : Hp} {Q : VK} {E : XK} {n : Nat} (h : spP K n (fnP N.length s) vs H Q E) : tDSP K (WX0 E) s { nx := fun _ H' => Q .non H', rt := Q } (start N vs) H := by
  obtain ⟨_, F, ws, _, hd, R0, g⟩ := h
  have no : ∀ a, ¬ Owned H (start N vs) (ent N.length ws) a := fun a z => by
    obtain ⟨i, o⟩ := ent_owned z
    exact dat_ow hd o
  have beh : ∀ {σ' : St} {e' : En} {F' H' : Hp}, Stp (start N vs) (ent N.length ws) F H σ' e' F' H' → Ex F' H' → Beh F H F' H' := fun S x =>
    ⟨S.sub, x, fun a o h => S.keep a o h (no a), fun a h => by
      rcases S.grow a h with z | z | z
      · exact .inl z
      · exact absurd z (no a)
      · exact .inr z⟩
  refine ⟨F, ent N.length ws, rel_ent R0, ?_⟩
  have g : FGoP K (match s (ent N.length ws) with
    | .rp w y => .ok w y
    | .err c => .err c
    | .bad => .bad) F H Q E := g
  cases q : s (ent N.length ws) with
  | bad => rw [q] at g; exact g
  | err c =>
    rw [q] at g
    exact fun σ' e' H' F' R S => g H' F' (beh S R.ex)
  | rp w y =>
    rw [q] at g
    intro σ' e' t v1 v2 H' F' S x ft pv dy
    exact g t v1 v2 H' F' (beh S x) ft (pv.imp fun p z => z.resolve_left (no p)) dy
theorem fn_p {P : Program} {w : World} {K : PySem.W.Frag} {mg : Str → Option Value} {base : Heap} {x qual : Str} {params : Arguments} {body : List Stmt} {sc : Scope}
    {f : Addr} {fd : FuncData} {N ps : List Str} {k : Nat} {s : DP} (F : FunD K x qual params body sc [] [] f fd) (S : FnScope N ps sc)
    (hb : ∀ (cdv : Value) (A : Around) (outer : List Env) (s0 : Shared) (H : Hp) (E : XK), Room k (A.deeper (envOfC qual sc s0.heap.objs.size f cdv)) → Gd A →
      PSs (cxOf (L2.CX P w) P w K mg base N qual sc f cdv A outer s0 H E) body (tDSP K (WX0 E) s)) :
    FnG P w K mg base (k + 1) f fd ps (spP K ps.length (fnP N.length s)) :=
  FunD.okG F S (fun vs H Q E h => h.1) fun cdv A outer s0 H vs Q E hr hg hs => ⟨_, hb cdv A outer s0 H E hr hg, body_readP hs⟩
def HasP (P : Program) (w : World) (K : PySem.W.Frag) (mg : Str → Option Value) (base : Heap) (k : Nat) (x : Str) (ps : List Str) (g : FP) : Prop :=
  ∃ fd, FnG P w K mg base k (He.ga K x) fd ps (spP K ps.length g) ∧ Binds K fd ps [] ∧ PySem.W.keepIn K (.ref (He.ga K x)) = true ∧ mg x = some (.ref (He.ga K x))
/-- a, b = f(..) -/
def putP (i j : Nat) (e : En) (w : Wv) (y : PyData) : Option En := (setW e i w).bind fun e2 => setW e2 j (.d y)
def callP (i j n : Nat) (f : FP) (ws : List Wv) (e : En) : Out := bif ws.length == n && ws.all isDat then (match f ws with
  | .ok w y => optS (putP i j e w y)
  | .err c => .err c e
  | .bad => .bad) else .bad
def dAsgP (i j n : Nat) (f : FP) (fs : List DE) : DS := fun e => bndLS (evs fs e) fun ws e1 => callP i j n f ws e1
theorem ps_d_callP {X : Cx} {W : WX} {k k' n i j : Nat} {ps : List Str} {g : FP} {x : Str} {p pos : Pos} {a : Expr} {as : List Expr} {fs : List DE} {tg : Expr} {spos : Pos} (h : HasP X.prog X.w X.K X.mg X.base k x ps g) (hk : k ≤ k') (hr : Room k' X.A) (hgd : Gd X.A) (tk : Takes X W) (hg : Gl X x) (ha : PA X (a :: as) (tDA X.K W fs))
    (ht : PG X tg (gTup X.K 2 (gCons (gName i) (gCons (gName j) gNil)))) (hn : ps.length = n := by rfl) (hdb : (x == ("__debug__" : Str)) = false := by decide)
    (he : starEach (a :: as) X.env = (false, eval a X.env) :: starEach as X.env := by rfl) (hpl : (backTo pos (starEach as X.env)).any (·.1) = false := by rfl)
    (hs : swapsWithSole [tg] (.Call (.Name x p) (a :: as) [] pos) spos.line X.env = pure false := by rfl) (hw : swappedStores [tg] (.Call (.Name x p) (a :: as) [] pos) X.env = pure none := by rfl)
    (h1 : (assignEach [tg] X.env).map (·.2) = [assign tg X.env] := by rfl) : PS X (.Assign [tg] (.Call (.Name x p) (a :: as) [] pos) spos) (tDS X.K W (dAsgP i j n g fs)) := by
  subst hn
  obtain ⟨fd, G, B, kp, m⟩ := h
  refine PS.to (ps_asg (pe_callG (E := WE W) (G.mono hk) hr hgd hg m kp B (fun σ => passAt tk σ) ha hdb he hpl) ht hs hw h1) ?_
  rintro D σ H ⟨F, e, R, h⟩
  refine ⟨F, e, R, ?_⟩
  have h : SGo X.K W (bndLS (evs fs e) fun ws e1 => callP i j ps.length g ws e1) σ e F H D := h
  cases q : evs fs e with
  | bad => rw [q] at h; exact h
  | err c e1 =>
    rw [q] at h
    exact fun H1 F1 R1 S1 => h σ H1 F1 R1 S1
  | ok ws e1 =>
    rw [q] at h
    have h : SGo X.K W (callP i j ps.length g ws e1) σ e F H D := h
    intro vs H1 F1 R1 S1 V1 N1
    unfold callP at h
    cases c : (ws.length == ps.length && ws.all isDat) with
    | false => rw [c] at h; exact h.elim
    | true =>
      rw [c, cond_true] at h
      obtain ⟨c1, c2⟩ := Bool.and_eq_true_iff.mp c
      have hl : ws.length = ps.length := by simpa using c1
      -- behind the call
      have back : ∀ {F' H' : Hp}, Beh F1 H1 F' H' → Rel X.K F' H' σ e1 ∧ Stp σ e F H σ e1 F' H' ∧ ∀ a, Owned H' σ e1 a ↔ Owned H1 σ e1 a := fun {F' H'} b => by
        have f : ∀ p o, F1 p = none → H1 p = some o → Owned H1 σ e1 p → F' p = none ∧ H' p = some o := fun p o g1 g2 _ => ⟨(by
          cases z : F' p with
          | none => rfl
          | some o =>
            rcases b.grow p (by rw [z]; exact fun z => nomatch z) with y | y
            · exact absurd g1 y
            · rw [g2] at y
              cases y), b.keep _ _ g2⟩
        have ow : ∀ a, Owned H' σ e1 a ↔ Owned H1 σ e1 a := fun a => owned_up R1 b.sub b.ex f
        exact ⟨rel_up R1 b.sub b.ex f,
         S1.tr ⟨b.sub, fun a o z _ => b.keep a o z, fun a z => .inl ((ow a).mp z), fun a z => (b.grow a z).imp id .inr, fun i xs z => ⟨rfl, xs, z⟩, fun i xs z => ⟨rfl, xs, z⟩, fun a z => (by
          cases y : H1 a with
          | none => exact absurd y z
          | some o =>
            rw [b.keep a o y]
            exact fun z => nomatch z)⟩, ow⟩
      refine ⟨by rw [vvs_len V1, hl], F1, ws, hl, c2, rel_args R1 V1 c2, ?_⟩
      cases z : g ws with
      | bad => rw [z] at h; exact h
      | err c =>
        rw [z] at h
        intro H' F' b
        obtain ⟨R2, S2, _⟩ := back b
        exact h σ H' F' R2 S2
      | ok w y =>
        rw [z] at h
        intro t v1 v2 H' F' b ft pv dy
        obtain ⟨R2, S2, O2⟩ := back b
        obtain ⟨e3, hp, h⟩ := h.opt
        obtain ⟨e2, hp1, hp2⟩ := Option.bind_eq_some_iff.mp hp
        refine ⟨t, [v1, v2], rfl, SqT.of (b.ex _ _ ft), rfl, v1, [v2], rfl, v2, [], rfl, rfl, ?_⟩
        have fin : ∀ {w : Wv}, RV X.K F' H' v1 w → (∀ a ∈ adr H' v1 w, ¬ Owned H' σ e1 a ∧ H a = none) → setW e1 i w = some e2 → D.nx ((σ.set i (some v1)).set j (some v2)) H' := fun {w} rv no hw => by
          obtain ⟨R3, S3⟩ := setW_ok S2 R2 rv no hw
          obtain ⟨R4, S4⟩ := setW_d S3 R3 dy hp2
          exact h _ _ F' R4 S4
        cases w with
        | d x => exact fin (w := .d x) pv (fun a z => by cases z) hp1
        | own xs =>
          obtain ⟨p, us, rfl, k1, k2, k3, k4⟩ := pv
          refine fin (w := .own xs) ⟨p, us, rfl, k1, k2, k3⟩ (fun a ha => ?_) hp1
          rw [List.mem_singleton.mp ha]
          refine ⟨fun z => R1.notOwned k4 ((O2 _).mp z), ?_⟩
          cases u : H p with
          | none => rfl
          | some o => exact absurd k4 (S1.there p (by rw [u]; exact fun z => nomatch z))
        | _ => exact pv.elim
end
end Vf
/-! A comprehension of two walks: over enumerate(..), within it over a list or a tuple. -/
namespace Vf
open PySem PySem.Spec L2
open PyProof.Rows hiding St
/-- at a turn of the inner walk: what was ahead of the outer one is τ, ε, F1, H1 -/
def Ci (K : PySem.W.Frag) (vs : List Nat) (σ τ : St) (ε : En) (F1 H1 Fb : Hp) (D : Addr) (k : En → List PyData → Prop) (H' : Hp) : Prop :=
  ∃ F' e' acc vacc, Ex Fb F' ∧ Rel K F' H' (wipe σ vs) e' ∧ Stp τ ε F1 H1 (wipe σ vs) e' F' H' ∧ H' D = some (.lst vacc) ∧ F' D = none ∧ ¬ Owned H' (wipe σ vs) e' D ∧ DpAll K F' vacc acc ∧ k e' acc
section
variable {K : PySem.W.Frag} {F H F' H' : Hp} {σ σ' τ : St} {e e' e1 ε : En} {v : V} {w : Wv} {W : WX} {vs : List Nat}
theorem ci_turn {js : List Nat} {g : TG} {tg : PyData → En → Option En} {t el : DE} {tt : TT} {F1 H1 Fb : Hp} {D : Addr} {Hc : Hp} {x : PyData} {xs : List PyData} {fin : List PyData × En → Prop}
    (T : TgOk K js g tg) (hj : ∀ j ∈ js, j ∈ vs) (ht : ∀ σ H Q, tDT K WF t σ H Q → tt σ H Q) (hD : H1 D = none) (nb : ∀ (i : Nat), isBrw ε[i]? → i ∉ vs) (d : ∀ F2 : Hp, Ex Fb F2 → Dp K F2 v x)
    (p : Ci K vs σ τ ε F1 H1 Fb D (fun e acc => ∃ r, lcGo vs tg t el (x :: xs) e acc = some r ∧ fin r) Hc) :
    g v (wipe σ vs) Hc fun σ2 H2 => wipe σ2 vs = wipe σ vs ∧ tt σ2 H2 fun b H3 =>
      if b = true then tD K WF (dEs el) σ2 H3 fun y H4 => ∃ acc, H4 D = some (.lst acc) ∧ acc.length < sizeLine ∧ Ci K vs σ τ ε F1 H1 Fb D (fun e acc => ∃ r, lcGo vs tg t el xs e acc = some r ∧ fin r) (upd H4 D (.lst (acc ++ [y])))
      else Ci K vs σ τ ε F1 H1 Fb D (fun e acc => ∃ r, lcGo vs tg t el xs e acc = some r ∧ fin r) H3 := by
  obtain ⟨F', e', acc, vacc, xb, R, S, a1, a2, a3, a4, r, h, hf⟩ := p
  obtain ⟨e2, q1, h⟩ := Option.bind_eq_some_iff.mp h
  obtain ⟨⟨w3, e3⟩, q2, h⟩ := Option.bind_eq_some_iff.mp h
  obtain ⟨b, q3, h⟩ := Option.bind_eq_some_iff.mp h
  refine T.go F' Hc _ e' v x e2 _ R (d F' xb) q1 fun σ2 R2 S2 hl hi => ⟨wipe_eq hl hj hi, ht _ _ _ ⟨F', e2, R2, ?_⟩⟩
  rw [okR_some q2]
  refine ⟨b, isB_some q3, fun H3 F3 R3 S3 => ?_⟩
  have S13 := (S.tr S2).tr S3
  have we : wipe σ2 vs = wipe σ vs := wipe_eq hl hj hi
  have S23 := S2.tr S3
  have d3 : H3 D = some (.lst vacc) := S23.keep _ _ a1 a3
  have f3 : F3 D = none := S23.unfrozen a1 a3 a2
  have o3 : ¬ Owned H3 σ2 e3 D := S23.unown a1 a3
  cases b with
  | false =>
    have Rw := rel_wipe (vs := vs) R3
    have Sw := stp_wipe (vs := vs) S13 nb
    rw [we] at Rw Sw
    exact ⟨F3, wpE e3 vs, acc, vacc, xb.tr S23.sub, Rw, Sw, d3, f3, fun z => o3 (wp_owned (σ := σ2) (by rw [we]; exact z)), dpa_ex S23.sub _ _ a4, r, h, hf⟩
  | true =>
    show tD K WF (dEs el) σ2 H3 _
    obtain ⟨⟨w4, e4⟩, q4, h⟩ := Option.bind_eq_some_iff.mp h
    obtain ⟨y, q5, h⟩ := Option.bind_eq_some_iff.mp h
    have ew : w4 = .d y := by
      cases w4 with
      | d z => cases q5; rfl
      | _ => cases q5
    subst ew
    refine ⟨F3, e3, R3, ?_⟩
    show Go K WF (esR (el e3)) σ2 e3 F3 H3 _
    rw [okR_some q4]
    intro yv H4 F4 R4 S4 V4 N4
    by_cases hz : acc.length ≤ 1000000
    · have h : lcGo vs tg t el xs (wpE e4 vs) (acc ++ [y]) = some r := by
        have z : (if acc.length ≤ 1000000 then lcGo vs tg t el xs (wpE e4 vs) (acc ++ [y]) else none) = some r := h
        rwa [if_pos hz] at z
      have d4 : H4 D = some (.lst vacc) := S4.keep _ _ d3 o3
      have f4 : F4 D = none := S4.unfrozen d3 o3 f3
      have o4 : ¬ Owned H4 σ2 e4 D := S4.unown d3 o3
      refine ⟨vacc, d4, lt_line (by rw [dpa_len a4]; exact hz), ?_⟩
      obtain ⟨R5, S15, o5⟩ := acc_chg (o := .lst (vacc ++ [yv])) R4 (S13.tr S4) hD f4 o4
      have Rw := rel_wipe (vs := vs) R5
      have Sw := stp_wipe (vs := vs) S15 nb
      rw [we] at Rw Sw
      exact ⟨F4, wpE e4 vs, acc ++ [y], vacc ++ [yv], xb.tr (S23.sub.tr S4.sub), Rw, Sw, upd_same, f4, fun z => o5 (wp_owned (σ := σ2) (by rw [we]; exact z)), dpa_app (dpa_ex (S23.sub.tr S4.sub) _ _ a4) (.cons V4 .nil), r, h, hf⟩
    · have z : (if acc.length ≤ 1000000 then lcGo vs tg t el xs (wpE e4 vs) (acc ++ [y]) else none) = some r := h
      rw [if_neg hz] at z
      cases z
end
/-- numbered from k on -/
def enumD (k : Nat) : List PyData → List PyData
  | [] => []
  | x :: xs => .tuple [.int (k : Int), x] :: enumD (k + 1) xs
theorem enumD_drop : ∀ (xs : List PyData) (k i : Nat) (x : PyData), xs[i]? = some x → (enumD k xs).drop i = .tuple [.int ((k + i : Nat) : Int), x] :: (enumD k xs).drop (i + 1)
  | [], _, _, _, h => by cases h
  | y :: ys, k, 0, x, h => by cases h; rfl
  | y :: ys, k, i + 1, x, h => by
    have q := enumD_drop ys (k + 1) i x h
    show (enumD (k + 1) ys).drop i = _ :: (enumD (k + 1) ys).drop (i + 1)
    rw [q, show k + 1 + i = k + (i + 1) by omega]
theorem enumD_len : ∀ (xs : List PyData) (k : Nat), (enumD k xs).length = xs.length
  | [], _ => rfl
  | _ :: xs, k => congrArg (· + 1) (enumD_len xs (k + 1))
def lc2Go (vs vs1 : List Nat) (tg : PyData → En → Option En) (f1 : DE) (tg1 : PyData → En → Option En) (el : DE) : List PyData → En → List PyData → Option (List PyData × En)
  | [], e, acc => some (acc, e)
  | x :: xs, e, acc => (tg x e).bind fun e2 => (okR (esR (f1 e2))).bind fun q => (dat1 q.1).bind fun s => (items s).bind fun ys => (lcGo vs1 tg1 (dC (.bool true)) el ys (wpE q.2 vs1) acc).bind fun r => lc2Go vs vs1 tg f1 tg1 el xs (wpE r.2 vs) r.1
def lstOf : Wv → Option (List PyData)
  | .d (.list xs) => some xs
  | _ => none
theorem lstOf_some {w : Wv} {xs : List PyData} (h : lstOf w = some xs) : w = .d (.list xs) := by
  cases w with
  | d x => cases x <;> cases h; rfl
  | _ => cases h
def dLcE (src : DE) (vs vs1 : List Nat) (tg : PyData → En → Option En) (f1 : DE) (tg1 : PyData → En → Option En) (el : DE) : DE := fun e => bnd (esR (src e)) fun w e1 =>
  outC (bif noOwn e1 vs then (lstOf w).bind fun xs => lc2Go vs vs1 tg f1 tg1 el (enumD 0 xs) (wpE e1 vs) [] else none) e1 vs

theorem in_seq {J : It} {us : List V} {H4 : Hp} {g1 : TG} {ρ : St} {C : (Hp → Prop) → St → Hp → Prop} {Z : Hp → Prop} (P : Nat → Hp → Prop) (p0 : P 0 H4)
    (go : ∀ i H, i < us.length → P i H → J.go i H) (yld : ∀ i H x H', P i H → J.yld i H x H' → H' = H ∧ us[i]? = some x) (end_ : ∀ H, P us.length H → J.stop us.length H)
    (step : ∀ i x H, us[i]? = some x → P i H → g1 x ρ H (C (P (i + 1)))) (stop : ∀ H, P us.length H → Z H) :
    ∃ W1 : Nat → Nat → Hp → Prop, (∃ m, W1 0 m H4) ∧ ∀ j k H, W1 j k H → (J.stop j H ∧ Z H) ∨ (J.go j H ∧ ∃ Nx1 : Hp → Prop, (∀ H', Nx1 H' → ∃ k', k' < k ∧ W1 (j + 1) k' H') ∧ ∀ x H', J.yld j H x H' → g1 x ρ H' (C Nx1)) := by
  refine ⟨fun j k H => k = us.length - j ∧ j ≤ us.length ∧ P j H, ⟨us.length, rfl, Nat.zero_le _, p0⟩, ?_⟩
  rintro j k H ⟨rfl, hj, p⟩
  by_cases lt : j < us.length
  · refine .inr ⟨go j H lt p, P (j + 1), fun H' p' => ⟨us.length - (j + 1), by omega, rfl, lt, p'⟩, fun x H' y => ?_⟩
    obtain ⟨rfl, hx⟩ := yld j H x H' p y
    exact step j x _ hx p
  · have e : j = us.length := by omega
    subst e
    exact .inl ⟨end_ H p, stop H p⟩
theorem wipe_sub {σ : St} {vs vs1 : List Nat} (h : ∀ i ∈ vs1, i ∈ vs) : wipe (wipe σ vs1) vs = wipe σ vs :=
  wipe_eq (js := vs) (by rw [wipe_length, wipe_length]) (fun _ z => z) fun i hi => by rw [wipe_out hi, wipe_out fun z => hi (h i z)]
section
variable {X : Cx} {W : WX} {f f1 el : DE} {g g1 : TG} {tgf tgf1 : PyData → En → Option En} {js js1 : List Nat} {vs vs1 : List Nat}
theorem lcE_read (T : TgOk X.K js g tgf) (T1 : TgOk X.K js1 g1 tgf1) (hj : ∀ j ∈ js, j ∈ vs) (hj1 : ∀ j ∈ js1, j ∈ vs1) (hv : ∀ j ∈ vs1, j ∈ vs) : ∀ σ H Q, tD X.K W (dLcE f vs vs1 tgf f1 tgf1 el) σ H Q →
    tLc2 (iEnum X.K (tCons (tD X.K W (dEs f)) tNil)) g tYes (iSeq X.K (tD X.K WF (dEs f1))) g1 tYes (tD X.K WF (dEs el)) vs vs1 σ H Q := by
  rintro σ H Q ⟨F, e, R, h⟩
  refine ⟨F, e, R, Go.imp (Go.bnd (r := esR (f e)) h) ?_⟩
  rintro v H1 ⟨F1, e1, w1, R1, S1, V1, N1, h1⟩
  cases no : noOwn e1 vs with
  | false => rw [no] at h1; exact h1.elim
  | true =>
    rw [no] at h1
    have h1 : Go X.K W (outC ((lstOf w1).bind fun xs => lc2Go vs vs1 tgf f1 tgf1 el (enumD 0 xs) (wpE e1 vs) []) e1 vs) σ e F H Q := h1
    cases q : (lstOf w1).bind fun xs => lc2Go vs vs1 tgf f1 tgf1 el (enumD 0 xs) (wpE e1 vs) [] with
    | none => rw [q] at h1; exact h1.elim
    | some r =>
        rw [q] at h1
        have hr : Go X.K W (.ok (.own r.1) (rst e1 r.2 vs)) σ e F H Q := h1
        obtain ⟨xs, q0, q⟩ := Option.bind_eq_some_iff.mp q
        have ew := lstOf_some q0
        subst ew
        obtain ⟨a, us, rfl, hs, da⟩ := dp_list_ref (show Dp X.K F1 v (.list xs) from V1)
        have ul := dpa_len da
        refine ⟨a, us, rfl, sql_ex R1.ex hs, fun D hD => ?_⟩
        have nb : ∀ (i : Nat), isBrw (wpE e1 vs)[i]? → i ∉ vs1 := fun i z y => brw_wp z (hv i y)
        refine ⟨fun i m Hc => m = us.length - i ∧ i ≤ us.length ∧ Cp X.K vs σ e1 F1 H1 D r (lc2Go vs vs1 tgf f1 tgf1 el ((enumD 0 xs).drop i)) Hc, ⟨us.length, rfl, Nat.zero_le _, cp_start R1 hD q⟩, ?_⟩
        rintro i m Hc ⟨rfl, hi, p⟩
        have sq : SqL X.K Hc a us := by
          obtain ⟨F', e', _, _, R', S', _⟩ := p
          exact sql_ex (S'.sub.tr R'.ex) hs
        by_cases lt : i < us.length
        · refine .inr ⟨⟨us, us[i], sq, List.getElem?_eq_getElem lt⟩, Cp X.K vs σ e1 F1 H1 D r (lc2Go vs vs1 tgf f1 tgf1 el ((enumD 0 xs).drop (i + 1))), fun H' p' => ⟨us.length - (i + 1), by omega, rfl, lt, p'⟩, ?_⟩
          rintro y H' ⟨t, x, rfl, ht, rfl, hx⟩
          have hx := hx us sq
          obtain ⟨z, hz, dz⟩ := dpa_get da hx
          rw [enumD_drop xs 0 i z hz] at p
          obtain ⟨F', e', acc, vacc, R', S', a1, a2, a3, a4, hk⟩ := p
          obtain ⟨e2, k1, hk⟩ := Option.bind_eq_some_iff.mp hk
          obtain ⟨⟨w3, e3⟩, k2, hk⟩ := Option.bind_eq_some_iff.mp hk
          obtain ⟨src, k3, hk⟩ := Option.bind_eq_some_iff.mp hk
          obtain ⟨ys, k4, hk⟩ := Option.bind_eq_some_iff.mp hk
          obtain ⟨r1, k5, k6⟩ := Option.bind_eq_some_iff.mp hk
          obtain ⟨R2, S2⟩ := rel_more R' ht (.tup [.int (i : Nat), x])
          have nDt : D ≠ t := ne_of_none a1 ht
          have dT : Dp X.K (upd F' t (.tup [.int (i : Nat), x])) (.ref t) (.tuple [.int ((0 + i : Nat) : Int), z]) := by
            rw [Nat.zero_add]
            exact .tup (SqT.of upd_same) (.cons (.int _) (.cons (dp_ex (S'.sub.tr S2.sub) _ _ dz) .nil))
          refine T.go _ _ _ e' _ _ e2 _ R2 dT k1 fun σ2 R3 S3 hl hi2 => ⟨wipe_eq hl hj hi2, ?_⟩
          unfold tYes
          simp only [↓reduceIte]
          refine ⟨_, e2, R3, ?_⟩
          show Go X.K WF (esR (f1 e2)) σ2 e2 _ _ _
          rw [okR_some k2]
          intro v4 H4 F4 R4 S4 V4 N4
          have ew : w3 = .d src := by
            cases w3 with
            | d z => cases k3; rfl
            | _ => cases k3
          subst ew
          have V4 : Dp X.K F4 v4 src := V4
          have S24 := (S2.tr S3).tr S4
          have S14 := S'.tr S24
          have d4 : H4 D = some (.lst vacc) := S24.keep _ _ a1 a3
          have f4 : F4 D = none := S24.unfrozen a1 a3 a2
          have o4 : ¬ Owned H4 σ2 e3 D := S24.unown a1 a3
          have start : Ci X.K vs1 σ2 (wipe σ vs) (wpE e1 vs) F1 H1 F4 D (fun e acc => ∃ r', lcGo vs1 tgf1 (dC (.bool true)) el (ys.drop 0) e acc = some r' ∧ lc2Go vs vs1 tgf f1 tgf1 el ((enumD 0 xs).drop (i + 1)) (wpE r'.2 vs) r'.1 = some r) H4 :=
            ⟨F4, wpE e3 vs1, acc, vacc, Ex.rfl' F4, rel_wipe R4, stp_wipe S14 nb, d4, f4, fun z => o4 (wp_owned z), dpa_ex S24.sub _ _ a4, r1, k5, k6⟩
          have stop : ∀ H5, Ci X.K vs1 σ2 (wipe σ vs) (wpE e1 vs) F1 H1 F4 D (fun e acc => ∃ r', lcGo vs1 tgf1 (dC (.bool true)) el [] e acc = some r' ∧ lc2Go vs vs1 tgf f1 tgf1 el ((enumD 0 xs).drop (i + 1)) (wpE r'.2 vs) r'.1 = some r) H5 →
              Cp X.K vs σ e1 F1 H1 D r (lc2Go vs vs1 tgf f1 tgf1 el ((enumD 0 xs).drop (i + 1))) H5 := by
            rintro H5 ⟨F5, e5, acc5, vacc5, _, R5, S5, b1, b2, b3, b4, r', c1, c2⟩
            cases c1
            have we : wipe (wipe σ2 vs1) vs = wipe σ vs := (wipe_sub hv).trans (wipe_eq hl hj hi2)
            have Rw := rel_wipe (vs := vs) R5
            have Sw := stp_wipe (vs := vs) S5 fun k z => brw_wp z
            rw [we] at Rw Sw
            exact ⟨F5, wpE e5 vs, acc5, vacc5, Rw, Sw, b1, b2, fun z => b3 (wp_owned (σ := wipe σ2 vs1) (vs := vs) (by rw [we]; exact z)), b4, c2⟩
          have next : ∀ {ws : List V} {k : Nat} {y : V}, DpAll X.K F4 ws ys → ws[k]? = some y → ∃ z, ys.drop k = z :: ys.drop (k + 1) ∧ Dp X.K F4 y z := by
            intro ws k y dk hy
            obtain ⟨z, hz, dz⟩ := dpa_get dk hy
            refine ⟨z, ?_, dz⟩
            have hl := (List.getElem?_eq_some_iff.mp hz).1
            rw [List.drop_eq_getElem_cons hl]
            congr 1
            exact (List.getElem?_eq_some_iff.mp hz).2
          have okL : ∀ {b : Addr} {ws : List V}, SqL X.K F4 b ws → ∀ {φ : En → List PyData → Prop} {H5 : Hp}, Ci X.K vs1 σ2 (wipe σ vs) (wpE e1 vs) F1 H1 F4 D φ H5 → SqL X.K H5 b ws := by
            intro b ws hs2 φ H5 p5
            obtain ⟨F5, _, _, _, xb, R5, _⟩ := p5
            exact sql_ex (xb.tr R5.ex) hs2
          have okT : ∀ {b : Addr} {ws : List V}, SqT X.K F4 b ws → ∀ {φ : En → List PyData → Prop} {H5 : Hp}, Ci X.K vs1 σ2 (wipe σ vs) (wpE e1 vs) F1 H1 F4 D φ H5 → SqT X.K H5 b ws := by
            intro b ws hs2 φ H5 p5
            obtain ⟨F5, _, _, _, xb, R5, _⟩ := p5
            exact sqt_ex (xb.tr R5.ex) hs2
          have step : ∀ {ws : List V}, DpAll X.K F4 ws ys → ∀ (k : Nat) (y : V) (H5 : Hp), ws[k]? = some y → Ci X.K vs1 σ2 (wipe σ vs) (wpE e1 vs) F1 H1 F4 D (fun e acc => ∃ r', lcGo vs1 tgf1 (dC (.bool true)) el (ys.drop k) e acc = some r' ∧ lc2Go vs vs1 tgf f1 tgf1 el ((enumD 0 xs).drop (i + 1)) (wpE r'.2 vs) r'.1 = some r) H5 →
              g1 y (wipe σ2 vs1) H5 fun σ3 H6 => wipe σ3 vs1 = wipe σ2 vs1 ∧ tYes σ3 H6 fun b H7 => if b = true then tD X.K WF (dEs el) σ3 H7 fun y H8 => ∃ acc, H8 D = some (.lst acc) ∧ acc.length < sizeLine ∧ Ci X.K vs1 σ2 (wipe σ vs) (wpE e1 vs) F1 H1 F4 D (fun e acc => ∃ r', lcGo vs1 tgf1 (dC (.bool true)) el (ys.drop (k + 1)) e acc = some r' ∧ lc2Go vs vs1 tgf f1 tgf1 el ((enumD 0 xs).drop (i + 1)) (wpE r'.2 vs) r'.1 = some r) (upd H8 D (.lst (acc ++ [y])))
                else Ci X.K vs1 σ2 (wipe σ vs) (wpE e1 vs) F1 H1 F4 D (fun e acc => ∃ r', lcGo vs1 tgf1 (dC (.bool true)) el (ys.drop (k + 1)) e acc = some r' ∧ lc2Go vs vs1 tgf f1 tgf1 el ((enumD 0 xs).drop (i + 1)) (wpE r'.2 vs) r'.1 = some r) H7 := by
            intro ws dk k y H5 hy p5
            obtain ⟨z, ez, dz⟩ := next dk hy
            rw [ez] at p5
            exact ci_turn T1 hj1 tt_yes hD nb (fun F2 x2 => dp_ex x2 _ _ dz) p5
          cases src with
          | list zs =>
            cases k4
            obtain ⟨b, ws, rfl, hs2, dk⟩ := dp_list_ref V4
            refine ⟨b, rfl, .inl ⟨⟨ws, sql_ex R4.ex hs2⟩, ?_⟩⟩
            exact in_seq (J := Itl X.K b) (us := ws) (C := fun N σ3 H6 => wipe σ3 vs1 = wipe σ2 vs1 ∧ tYes σ3 H6 fun b H7 => if b = true then tD X.K WF (dEs el) σ3 H7 fun y H8 => ∃ acc, H8 D = some (.lst acc) ∧ acc.length < sizeLine ∧ N (upd H8 D (.lst (acc ++ [y]))) else N H7)
              (fun k H5 => Ci X.K vs1 σ2 (wipe σ vs) (wpE e1 vs) F1 H1 F4 D (fun e acc => ∃ r', lcGo vs1 tgf1 (dC (.bool true)) el (ys.drop k) e acc = some r' ∧ lc2Go vs vs1 tgf f1 tgf1 el ((enumD 0 xs).drop (i + 1)) (wpE r'.2 vs) r'.1 = some r) H5) start
              (fun k H5 lt p5 => ⟨ws, ws[k], okL hs2 p5, List.getElem?_eq_getElem lt⟩) (fun k H5 y H6 p5 ⟨eh, hy⟩ => ⟨eh, hy ws (okL hs2 p5)⟩) (fun H5 p5 => ⟨ws, okL hs2 p5, Nat.le_refl _⟩) (step dk) fun H5 p5 => stop H5 (by
                rw [dpa_len dk, List.drop_length] at p5
                exact p5)
          | tuple zs =>
            cases k4
            obtain ⟨b, ws, rfl, hs2, dk⟩ := dp_tup_ref V4
            refine ⟨b, rfl, .inr ⟨⟨ws, sqt_ex R4.ex hs2⟩, ?_⟩⟩
            exact in_seq (J := Itt X.K b) (us := ws) (C := fun N σ3 H6 => wipe σ3 vs1 = wipe σ2 vs1 ∧ tYes σ3 H6 fun b H7 => if b = true then tD X.K WF (dEs el) σ3 H7 fun y H8 => ∃ acc, H8 D = some (.lst acc) ∧ acc.length < sizeLine ∧ N (upd H8 D (.lst (acc ++ [y]))) else N H7)
              (fun k H5 => Ci X.K vs1 σ2 (wipe σ vs) (wpE e1 vs) F1 H1 F4 D (fun e acc => ∃ r', lcGo vs1 tgf1 (dC (.bool true)) el (ys.drop k) e acc = some r' ∧ lc2Go vs vs1 tgf f1 tgf1 el ((enumD 0 xs).drop (i + 1)) (wpE r'.2 vs) r'.1 = some r) H5) start
              (fun k H5 lt p5 => ⟨ws, ws[k], okT hs2 p5, List.getElem?_eq_getElem lt⟩) (fun k H5 y H6 p5 ⟨eh, hy⟩ => ⟨eh, hy ws (okT hs2 p5)⟩) (fun H5 p5 => ⟨ws, okT hs2 p5, Nat.le_refl _⟩) (step dk) fun H5 p5 => stop H5 (by
                rw [dpa_len dk, List.drop_length] at p5
                exact p5)
          | _ => cases k4
        · have e : i = us.length := by omega
          subst e
          refine .inl ⟨⟨us, sq, Nat.le_refl _⟩, ?_⟩
          have z : (enumD 0 xs).drop us.length = [] := by
            have := List.drop_length (l := enumD 0 xs)
            rwa [enumD_len, ← ul] at this
          rw [z] at p
          obtain ⟨F', e', acc, vacc, b1, b2, b3, b4, b5, b6, b7⟩ := p
          exact cp_done (tg := tgf) (t := dC (.bool true)) (el := el) R1 no hD S1 hr ⟨F', e', acc, vacc, b1, b2, b3, b4, b5, b6, b7⟩
end
end Vf
/-! .. as an expression. -/
namespace Vf
open PySem PySem.Spec L2
open PyProof.Rows hiding St
section
variable {X : Cx} {W : WX} {f f1 el : DE} {g g1 : TG} {tgf tgf1 : PyData → En → Option En} {js js1 : List Nat} {vs vs1 : List Nat} {elt tg1 iter1 n : Expr} {elts : List Expr} {scope : Scope} {own : List (Str × Nat)} {kk : Nat} {p0 p1 tpos pos : Pos}
theorem pd_lcE (hc : X.calm = true) (hN : X.N.Nodup) (ge : Gl X "enumerate") (me : X.mg "enumerate" = none) (hi : PE X n (tD X.K W f)) (ok : BlkOk X.N X.env.scope scope own) (hv : own.map (·.2) = vs) (hs : ∀ i ∈ vs1, i ∈ vs)
    (hg : InB X scope fun Y => PG Y (.Tuple elts kk tpos) g) (T : TgOk X.K js g tgf) (hj : ∀ j ∈ js, j ∈ vs) (hi1 : InB X scope fun Y => PE Y iter1 (tD X.K WF (dEs f1))) (hg1 : InB X scope fun Y => PG Y tg1 g1) (T1 : TgOk X.K js1 g1 tgf1) (hj1 : ∀ j ∈ js1, j ∈ vs1)
    (he : InB X scope fun Y => PE Y elt (tD X.K WF (dEs el))) (ha : starEach [n] X.env = [(false, eval n X.env)] := by rfl) (hf1 : ∀ env x, foldedSetIterable iter1 env x = pure x := by intro _ _; rfl) :
    PE X (.ListComp elt [⟨.Tuple elts kk tpos, .Call (.Name "enumerate" p0) [n] [] p1, [], 0⟩, ⟨tg1, iter1, [], 0⟩] scope pos) (tD X.K W (dLcE f vs vs1 tgf f1 tgf1 el)) := by
  subst hv
  exact PE.to (pe_lc2 hc hN (pi_enum ge me (pa_cons (pd_es hi) pa_nil ha) ha) ok hs hg (fun _ _ _ _ _ => pts_nil) (fun s H C cl fp => pi_seq (hi1 s H C cl fp)) hg1 (fun _ _ _ _ _ => pts_nil) he (by intro _; rfl) hf1) (lcE_read T T1 hj hj1 hs)
end
end Vf
/-! len(set(..)), of a list or a tuple of whole numbers, truths, texts, None. -/
namespace Vf
open PySem PySem.Spec L2
open PyProof.Rows hiding St
/-- the keys met, each once -/
def kAdd (L : List Leaf) (x : Leaf) : List Leaf := if x ∈ L then L else x :: L
def kSet (xs : List Leaf) : List Leaf := xs.foldl kAdd []
theorem kAdd_len {L : List Leaf} {x : Leaf} : (kAdd L x).length ≤ L.length + 1 := by
  unfold kAdd
  split
  · exact Nat.le_succ _
  · exact Nat.le_refl _
theorem kSet_next {xs : List Leaf} {i : Nat} (h : i < xs.length) : kSet (xs.take (i + 1)) = kAdd (kSet (xs.take i)) (xs.getD i .none) := by
  unfold kSet
  rw [List.take_add_one, List.foldl_append, List.getElem?_eq_getElem h, List.getD_eq_getElem?_getD, List.getElem?_eq_getElem h]
  rfl
theorem kSet_snoc {xs : List Leaf} {x : Leaf} : kSet (xs ++ [x]) = kAdd (kSet xs) x := by
  unfold kSet
  rw [List.foldl_append]
  rfl
theorem kfold_len : ∀ (xs L : List Leaf), (xs.foldl kAdd L).length ≤ L.length + xs.length
  | [], L => Nat.le_refl _
  | x :: xs, L => by
    have h1 := kfold_len xs (kAdd L x)
    have h2 := kAdd_len (L := L) (x := x)
    rw [List.foldl_cons, List.length_cons]
    omega
theorem kSet_len (xs : List Leaf) : (kSet xs).length ≤ xs.length := by
  have h := kfold_len xs []
  unfold kSet
  simpa using h
theorem kfold_full : ∀ (xs L : List Leaf), (xs.foldl kAdd L).length = L.length + xs.length ↔ (xs.Nodup ∧ ∀ x ∈ xs, x ∉ L)
  | [], L => by simp
  | x :: xs, L => by
    rw [List.foldl_cons, List.length_cons]
    by_cases m : x ∈ L
    · have e : kAdd L x = L := if_pos m
      rw [e]
      have := kfold_len xs L
      constructor
      · intro h; omega
      · rintro ⟨_, h⟩; exact absurd m (h x List.mem_cons_self)
    · have e : kAdd L x = x :: L := if_neg m
      have ih := kfold_full xs (x :: L)
      rw [List.length_cons] at ih
      rw [e, show L.length + (xs.length + 1) = L.length + 1 + xs.length by omega, ih, List.nodup_cons]
      constructor
      · rintro ⟨nd, h⟩
        refine ⟨⟨fun z => h x z List.mem_cons_self, nd⟩, fun y hy z => ?_⟩
        rcases List.mem_cons.mp hy with rfl | hy
        · exact m z
        · exact h y hy (List.mem_cons_of_mem _ z)
      · rintro ⟨⟨n1, nd⟩, h⟩
        refine ⟨nd, fun y hy z => ?_⟩
        rcases List.mem_cons.mp z with rfl | z
        · exact n1 hy
        · exact h y (List.mem_cons_of_mem _ hy) z
/-- all are different just where none is lost -/
theorem kSet_full {xs : List Leaf} : (kSet xs).length = xs.length ↔ xs.Nodup := by
  have h := kfold_full xs []
  unfold kSet
  simpa using h
def HasL (prog : Program) (w : World) (h : Heap) (S : Addr) (L : List Leaf) : Prop := h.SetOf (leafKind prog w) S (fun z => decide (z ∈ L)) L.length
theorem HasL.kept {prog : Program} {w : World} {h g : Heap} {S : Addr} {L : List Leaf} (q : HasL prog w h S L) (k : ∀ o, h.get? S = some o → g.get? S = some o) : HasL prog w g S L := by
  obtain ⟨o, es, ep, tb, e, r⟩ := q
  exact ⟨o, es, ep, tb, k o e, r⟩
/-- a value that is the key -/
def LfV (k : Leaf) (v : Value) : Prop := Leaf.isOf k v = true ∧ v.scannable = true
theorem hasL_next {prog : Program} {w : World} {g : Heap} {S : Addr} {L : List Leaf} {x : Leaf} (new : g.SetOf (leafKind prog w) S (fun k' => decide (k' ∈ L) || decide (k' = x)) (if decide (x ∈ L) = true then L.length else L.length + 1)) : HasL prog w g S (kAdd L x) := by
  refine SetOf_congr new (fun z => ?_) ?_
  · unfold kAdd
    by_cases m : x ∈ L
    · rw [if_pos m]
      by_cases e : z = x
      · rw [e, decide_eq_true m]; rfl
      · rw [decide_eq_false e, Bool.or_false]
    · rw [if_neg m]
      by_cases e : z = x
      · rw [e, decide_eq_true (rfl : x = _), Bool.or_true]
        exact (decide_eq_true List.mem_cons_self).symm
      · rw [decide_eq_false e, Bool.or_false]
        exact decide_eq_decide.mpr ⟨fun q => List.mem_cons_of_mem _ q, fun q => (List.mem_cons.mp q).resolve_left e⟩
  · unfold kAdd
    by_cases m : x ∈ L
    · rw [if_pos m, if_pos (decide_eq_true m)]
    · rw [if_neg m, if_neg (by simpa using m), List.length_cons]
section
variable {prog : Program} {w : World} {A : Around}
section
variable {R : Result → Shared → Prop} {J : Addr} {fp wr : List Addr} {G : Array GenState → Array GenState → Prop} {n : Nat} {P : Nat → Value → Prop} {T : Nat → Shared → Prop}
theorem into_setL (k : WalksS prog w A.in1 J fp wr G n P T) (S : Addr) (nS : S ∉ fp) (xs : List Leaf) (len : xs.length = n) (few : n < 4000) (val : ∀ i v, P i v → LfV (xs.getD i .none) v) :
    ∀ (r i : Nat) (s : Shared), i + r = n → T i s → HasL prog w s.heap S (kSet (xs.take i)) → (∀ s2, Moved (S :: wr) G s s2 → HasL prog w s2.heap S (kSet xs) → R (.ok (.ret .none)) s2) →
      codeAny (model prog w) A (.builtin "set.update.loop" ⟨[.ref S, .ref J], []⟩) R s := by
  have away : S ∉ wr := fun z => nS (k.sub _ z)
  have wide : ∀ b ∈ wr, b ∈ S :: wr := fun b z => List.mem_cons_of_mem _ z
  intro r
  induction r with
  | zero =>
    intro i s hi st has goal
    have hi : i = n := by omega
    rw [hi] at st has
    refine codeAny_builtin F.entry_set_update_loop ?_
    rw [Around.under_plainId (id := "set.update.loop") F.plain_set_update_loop _]
    refine wpAny_bind (k.done s _ _ st fun s2 mv => wpAny_pure (goal s2 (mv.mono wide) ?_))
    rw [← len, List.take_length] at has
    exact has.kept fun o e => mv.heap S o away e
  | succ r ih =>
    intro i s hi st has goal
    have lt : i < n := by omega
    refine codeAny_builtin F.entry_set_update_loop ?_
    rw [Around.under_plainId (id := "set.update.loop") F.plain_set_update_loop _]
    refine wpAny_bind (k.item i s _ _ lt st fun v s2 pv st2 mv => ?_)
    obtain ⟨is1, sc1⟩ := val i v pv
    have has2 := has.kept fun o e => mv.heap S o away e
    refine wpAny_bind (wpAny_holding (wpAny_holding (wpAny_bind ((leafKind prog w).pyHash (k := xs.getD i .none) is1 ?_))))
    have room : (kSet (xs.take i)).length + 1 < scanBound := by
      have h1 := kSet_len (xs.take i)
      have h2 : (xs.take i).length ≤ xs.length := List.length_take_le' ..
      show _ < 4096
      omega
    refine wpAny_setAddHashed_of (knd := leafKind prog w) (s := { s2 with toks := s2.toks + 1 }) is1 sc1 has2 room fun g same new => ?_
    have has3 : HasL prog w g S (kSet (xs.take (i + 1))) := by
      rw [kSet_next (by omega)]
      exact hasL_next new
    have off : ∀ b, b ∈ fp → g.get? b = s2.heap.get? b := fun b hb => same.2 b fun z => nS (by rw [← z]; exact hb)
    refine wpAny_pure ⟨plainId_quiet F.plain_set_update_loop _, ih (i + 1) _ (by omega) (k.frame _ s2 _ _ st2 (Nat.le_succ _) fun b hb o e => by rw [off b hb]; exact e) has3 fun s3 mv3 has4 => goal s3 (Moved.trans k.gtrans ((mv.mono wide).then_heap (Nat.le_succ _) fun b o hb e => ?_) mv3) has4⟩
    rw [same.2 b fun z => hb (by rw [z]; exact List.mem_cons_self)]
    exact e
end
section
variable {E : Value → Shared → Prop} {s : Shared}
/-- what is gone over: a tuple, a list -/
inductive SeqV (h : Heap) (a : Addr) (its : Array Value) : Prop where
  | tup (x : h.IsTuple a its)
  | lst (x : h.IsList a its)
theorem call_setL {a : Addr} {its : Array Value} {xs : List Leaf} {Q : Value → Shared → Prop} (calm : A.handled = none) (at_ : SeqV s.heap a its) (len : xs.length = its.size) (all : ∀ (i : Nat) (v : Value), its[i]? = some v → LfV (xs.getD i .none) v) (few : xs.length < 4000)
    (goal : ∀ (g : Heap) (k : Nat), HasL prog w g s.heap.objs.size (kSet xs) → (∀ b o, b < s.heap.objs.size → s.heap.get? b = some o → g.get? b = some o) → Q (.ref s.heap.objs.size) { s with heap := g, toks := k }) :
    wpAny (model prog w) A (call (.type "set") [.ref a]) Q E s := by
  obtain ⟨hd, tl, order⟩ := F.called_set.mro
  have made_ := F.called_set.made; have sub_ := F.called_set.sub; have kind1 := F.called_set.notType; have kind2 := F.called_set.canCreate; have args1 := F.typeCall_set_1 (.ref a)
  refine wpAny_call (codeAny_of_tree (wpAny_pure ⟨Code.quiet_builtin _ (by decide +kernel), codeAny_builtin F.entry_type_call ?_⟩))
  rw [Around.under_plain (weight_type_call_type "set" [.ref a] []) rfl]
  repeat (any_goals (first | assumption | wp_step))
  refine codeAny_mono (code_set_new_1 (.ref a) (E := E) (Q₁ := fun v s1 => ∃ b : Bool, v = .ref s.heap.objs.size ∧ s1 = { s with heap := s.heap.push (bare b) }) fun b => ⟨b, rfl, rfl⟩) fun r s1 hr => ?_
  cases r with
  | error e => exact hr
  | ok fl =>
    cases fl with
    | ret v =>
      obtain ⟨b, rfl, rfl⟩ := hr
      have new : (s.heap.push (bare b)).get? s.heap.objs.size = some (bare b) := Heap.get?_push_size _ rfl
      have ty : Shared.TypeIs { s with heap := s.heap.push (bare b) } (.ref s.heap.objs.size) "set" := ⟨_, new, rfl⟩
      have look := F.called_set.init.lookup; have bound := F.called_set.init.bind (.ref s.heap.objs.size)
      repeat (any_goals (first | assumption | wp_step))
      refine codeAny_mono (codeAny_call_builtin (R := wants (fun r s2 => r = .none ∧ ∃ g k, s2 = { s with heap := g, toks := k } ∧ HasL prog w g s.heap.objs.size (kSet xs) ∧ ∀ b o, b < s.heap.objs.size → s.heap.get? b = some o → g.get? b = some o) E)
        F.called_set.init.plain F.entry_set_init (check_set_init_1 ty ?_)) fun r2 s2 hr2 => ?_
      · cases at_ with
        | tup at_ =>
          obtain ⟨⟨oc, od, oda, osl⟩, there, c1, n1, d1⟩ := at_
          simp only at c1 d1
          subst c1 d1
          have there1 : (s.heap.push (bare b)).get? a = some { cls := .type "tuple", dict := od, data := .seq its n1, slots := osl } := Heap.get?_push_of_some _ there
          have tup1 : (s.heap.push (bare b)).IsTuple a its := ⟨_, there1, rfl, n1, rfl⟩
          have is1 := F.sub_tuple_set; have is2 := F.sub_tuple_frozenset; have is3 : (Value.type "tuple" == Value.type "dict") = false := by decide
          unfold Builtin.«set.__init__» noKeywords Builtin.Frozenset.updateFrom
          generalize eI : pyIter = It
          wp_walk
          subst eI
          refine wpAny_pyIter_tuple tup1 (wpAny_bind (wpAny_runValue ?_))
          have low : a < s.heap.objs.size := Heap.lt_size there
          have n2 : a ≠ (s.heap.push (bare b)).objs.size := by rw [Heap.size_push]; exact Nat.ne_of_lt (Nat.lt_succ_of_lt low)
          have n3 : s.heap.objs.size ∉ [(s.heap.push (bare b)).objs.size, a] := by
            rw [Heap.size_push]
            intro z
            rcases List.mem_cons.mp z with z | z
            · exact absurd z (Nat.ne_of_lt (Nat.lt_succ_self _))
            · exact absurd (List.mem_singleton.mp z) (Nat.ne_of_gt low)
          refine into_setL ((Walks.tuple (show A.in1.in1.in1.handled = none by simp [calm]) _ a n2 its).toS) s.heap.objs.size n3 xs len (by omega) all its.size 0 _ (Nat.zero_add _)
            ⟨⟨_, Heap.get?_push_size _ rfl, rfl, rfl⟩, tup1.push _⟩ ?first ?last
          case first =>
            have still : ((s.heap.push (bare b)).push { cls := .type "tuple_iterator", data := .fields #[.ref a, .int 0 0] }).get? s.heap.objs.size = some (bare b) := Heap.get?_push_of_some _ new
            exact SetOf_congr ((setObjOf_fresh (knd := leafKind prog w) b).setOf still (by unfold scanBound; omega)) (fun _ => rfl) rfl
          case last =>
            rintro ⟨g, gs, dr, k, os⟩ mv has
            obtain rfl : gs = s.gens := mv.gens
            obtain rfl : dr = s.drawn := mv.drawn
            obtain rfl : os = s.os := mv.os
            refine wpAny_pure (wpAny_pure ⟨rfl, g, k, rfl, has, fun b1 o hb e => ?_⟩)
            refine mv.heap b1 o (fun z => ?_) (Heap.get?_push_of_some _ (Heap.get?_push_of_some _ e))
            rcases List.mem_cons.mp z with z | z
            · exact absurd z (Nat.ne_of_lt hb)
            · rw [List.mem_singleton.mp z, Heap.size_push] at hb
              exact absurd hb (by omega)
        | lst at_ =>
          obtain ⟨⟨oc, od, oda, osl⟩, there, c1, n1, d1⟩ := at_
          simp only at c1 d1
          subst c1 d1
          have there1 : (s.heap.push (bare b)).get? a = some { cls := .type "list", dict := od, data := .seq its n1, slots := osl } := Heap.get?_push_of_some _ there
          have lst1 : (s.heap.push (bare b)).IsList a its := ⟨_, there1, rfl, n1, rfl⟩
          have is1 := F.sub_list_set; have is2 := F.sub_list_frozenset; have is3 : (Value.type "list" == Value.type "dict") = false := by decide
          unfold Builtin.«set.__init__» noKeywords Builtin.Frozenset.updateFrom
          generalize eI : pyIter = It
          wp_walk
          subst eI
          refine wpAny_pyIter_list lst1 (wpAny_bind (wpAny_runValue ?_))
          have low : a < s.heap.objs.size := Heap.lt_size there
          have n2 : a ≠ (s.heap.push (bare b)).objs.size := by rw [Heap.size_push]; exact Nat.ne_of_lt (Nat.lt_succ_of_lt low)
          have n3 : s.heap.objs.size ∉ [(s.heap.push (bare b)).objs.size, a] := by
            rw [Heap.size_push]
            intro z
            rcases List.mem_cons.mp z with z | z
            · exact absurd z (Nat.ne_of_lt (Nat.lt_succ_self _))
            · exact absurd (List.mem_singleton.mp z) (Nat.ne_of_gt low)
          refine into_setL ((Walks.list (show A.in1.in1.in1.handled = none by simp [calm]) _ a n2 its).toS) s.heap.objs.size n3 xs len (by omega) all its.size 0 _ (Nat.zero_add _)
            ⟨⟨_, Heap.get?_push_size _ rfl, rfl, rfl⟩, lst1.push _⟩ ?first ?last
          case first =>
            have still : ((s.heap.push (bare b)).push { cls := .type "list_iterator", data := .fields #[.ref a, .int 0 0] }).get? s.heap.objs.size = some (bare b) := Heap.get?_push_of_some _ new
            exact SetOf_congr ((setObjOf_fresh (knd := leafKind prog w) b).setOf still (by unfold scanBound; omega)) (fun _ => rfl) rfl
          case last =>
            rintro ⟨g, gs, dr, k, os⟩ mv has
            obtain rfl : gs = s.gens := mv.gens
            obtain rfl : dr = s.drawn := mv.drawn
            obtain rfl : os = s.os := mv.os
            refine wpAny_pure (wpAny_pure ⟨rfl, g, k, rfl, has, fun b1 o hb e => ?_⟩)
            refine mv.heap b1 o (fun z => ?_) (Heap.get?_push_of_some _ (Heap.get?_push_of_some _ e))
            rcases List.mem_cons.mp z with z | z
            · exact absurd z (Nat.ne_of_lt hb)
            · rw [List.mem_singleton.mp z, Heap.size_push] at hb
              exact absurd hb (by omega)
      · cases r2 with
        | error e => exact hr2
        | ok fl2 =>
          cases fl2 with
          | ret v =>
            obtain ⟨rfl, g, k, rfl, has, kept⟩ := hr2
            repeat (any_goals (first | assumption | wp_step))
            exact goal _ _ has kept
          | _ => exact hr2.elim
    | _ => exact hr.elim
end
end
end Vf
/-! .. as data. -/
namespace Vf
open PySem PySem.Spec L2
open PyProof.Rows hiding St

def leafOf : PyData → Option Leaf
  | .none => some .none
  | .bool b => some (.num (if b = true then 1 else 0))
  | .int i => some (.num i)
  | .str z => some (.text z)
  | _ => none
def leafs : List PyData → Option (List Leaf)
  | [] => some []
  | x :: r => (leafOf x).bind fun k => (leafs r).bind fun ks => some (k :: ks)
section
variable {K : PySem.W.Frag} {F H : Hp} {v : V} {X : Cx} {W : WX}
theorem leaf_val {x : PyData} {k : Leaf} {u : Value} (d : Dp K F v x) (q : leafOf x = some k) (r : RelV v u) : LfV k u := by
  cases x with
  | none => cases q; rw [dp_non d] at r; cases r; exact ⟨rfl, rfl⟩
  | bool b => cases q; rw [dp_bl d] at r; cases r; exact ⟨decide_eq_true rfl, rfl⟩
  | int i => cases q; rw [dp_int d] at r; obtain ⟨t, rfl⟩ := r; exact ⟨decide_eq_true rfl, rfl⟩
  | str z => cases q; rw [dp_str d] at r; obtain ⟨t, rfl⟩ := r; exact ⟨beq_self_eq_true _, rfl⟩
  | _ => cases q
theorem leafs_len : ∀ {xs : List PyData} {ks : List Leaf}, leafs xs = some ks → ks.length = xs.length
  | [], _, h => by cases h; rfl
  | x :: r, _, h => by
    obtain ⟨k, _, h⟩ := Option.bind_eq_some_iff.mp h
    obtain ⟨ks, h2, h⟩ := Option.bind_eq_some_iff.mp h
    cases h
    rw [List.length_cons, List.length_cons, leafs_len h2]
theorem leaf_vals : ∀ {us : List V} {xs : List PyData} {ks : List Leaf} {vs : List Value}, DpAll K F us xs → leafs xs = some ks → Vals us vs → ∀ (i : Nat) (v : Value), vs[i]? = some v → LfV (ks.getD i .none) v
  | _, _, _, _, .nil, _, .nil, i, v, h => by cases h
  | _, _, _, _, .cons d t, q, .cons r rs', i, v, h => by
    obtain ⟨k, h1, q⟩ := Option.bind_eq_some_iff.mp q
    obtain ⟨ks', h2, q⟩ := Option.bind_eq_some_iff.mp q
    cases q
    cases i with
    | zero => cases h; exact leaf_val d h1 r
    | succ i => exact leaf_vals t h2 rs' i v h
def opLenKeys : PyData → Option Wv := fun x => (items x).bind fun xs => (leafs xs).bind fun ks => if ks.length < 4000 then some (.d (.int (kSet ks).length)) else none
def rLenKeys (K : PySem.W.Frag) : V → Hp → VK → Prop := fun x H Q => ∃ (l : Addr) (us : List V) (F : Hp) (xs : List PyData) (ks : List Leaf), x = .ref l ∧ (SqT K H l us ∨ SqL K H l us) ∧ DpAll K F us xs ∧ leafs xs = some ks ∧ ks.length < 4000 ∧ Q (.int (kSet ks).length) H
theorem pe_lenKeys {a : Expr} {ta : TE} {p p2 q pos : Pos} (calm : X.calm = true) (g1 : Gl X "len") (m1 : X.mg "len" = none) (g2 : Gl X "set") (m2 : X.mg "set" = none) (ha : PE X a ta)
    (na : starEach [a] X.env = (false, eval a X.env) :: starEach [] X.env := by rfl) : PE X (.Call (.Name "len" p) [.Call (.Name "set" p2) [a] [] q] [] pos) (tUn (rLenKeys X.K) ta) := by
  constructor
  intro pins s σ H Q I h
  refine wpAny_Call_Name_kw (ld_blt I g1 m1 boot_len (callWith_builtin1 (args_cons ?_ rfl) rfl rfl))
  refine wpAny_Call_Name_kw (ld_blt I g2 m2 boot_set (callWith_type1 (args_cons (thn (ha.run pins s σ H _ I h) ?_) na) na rfl))
  rintro v s1 ⟨x, H1, I1, r1, l, us, F, xs, ks, rfl, sq, da, lk, few, q1⟩
  cases r1
  have src : ∃ its : Array Value, SeqV s1.heap l its ∧ ks.length = its.size ∧ ∀ (i : Nat) (v : Value), its[i]? = some v → LfV (ks.getD i .none) v := by
    have size : ∀ {vs : List Value}, Vals us vs → ks.length = vs.length := fun rv => by rw [leafs_len lk, ← dpa_len da, rv.length]
    rcases sq with sq | sq
    · obtain ⟨its, rv, pl, _⟩ := I1.tuple sq
      refine ⟨its.toArray, .tup pl, ?_, fun i v h => leaf_vals da lk rv i v (by simpa using h)⟩
      rw [size rv, List.size_toArray]
    · obtain ⟨its, rv, pl, _⟩ := I1.list sq
      refine ⟨its.toArray, .lst pl.isList, ?_, fun i v h => leaf_vals da lk rv i v (by simpa using h)⟩
      rw [size rv, List.size_toArray]
  obtain ⟨its, sv, len, all⟩ := src
  refine args_nil (call_setL (I1.ok.hd calm) sv len all few fun g k has kept => args_nil ?_)
  obtain ⟨o, es, ep, t, ho, hex, hd, _, _, _, hf, hn⟩ := has
  have I2 : Inv X pins σ H1 { s1 with heap := g, toks := k } := I1.kept fun b o e => kept b o (Heap.lt_size e) e
  have small : (kSet ks).length < 4000 := Nat.lt_of_le_of_lt (kSet_len ks) few
  exact call_len_set ho hex hd hf (by rw [hn]; omega) ⟨.int (kSet ks).length, H1, I2.tok _, ⟨_, by rw [hn]⟩, q1⟩
theorem hr_lenKeys : Op1 K opLenKeys (rLenKeys K) := by
  intro F H v1 x w Q hx d q k
  obtain ⟨xs, h0, q⟩ := Option.bind_eq_some_iff.mp q
  obtain ⟨ks, h1, q⟩ := Option.bind_eq_some_iff.mp q
  by_cases few : ks.length < 4000
  · rw [if_pos few] at q
    cases q
    cases x with
    | tuple ys =>
      cases h0
      obtain ⟨a, us, rfl, s, g⟩ := dh_tup hx d
      exact ⟨a, us, _, _, ks, rfl, .inl s, g, h1, few, k _ _ (new_dat (.int _))⟩
    | list ys =>
      cases h0
      obtain ⟨a, us, rfl, s, g⟩ := dh_list d
      exact ⟨a, us, _, _, ks, rfl, .inr s, g, h1, few, k _ _ (new_dat (.int _))⟩
    | _ => cases h0
  · rw [if_neg few] at q; cases q
theorem pd_lenKeys {a : Expr} {f : DE} {p p2 q pos : Pos} (calm : X.calm = true) (g1 : Gl X "len") (m1 : X.mg "len" = none) (g2 : Gl X "set") (m2 : X.mg "set" = none) (ha : PE X a (tD X.K W f))
    (na : starEach [a] X.env = (false, eval a X.env) :: starEach [] X.env := by rfl) : PE X (.Call (.Name "len" p) [.Call (.Name "set" p2) [a] [] q] [] pos) (tD X.K W (dU1 opLenKeys f)) :=
  PE.to (pe_lenKeys calm g1 m1 g2 m2 ha na) (u1 hr_lenKeys)
end
end Vf
/-! len({.. for x in xs}): the keys are whole numbers, truths, texts, None. -/
namespace Vf
open PySem PySem.Spec L2
open PyProof.Rows hiding St
/-- the set at D -/
def KsO (P : Program) (w : World) (D : Addr) (L : List Leaf) : HO := .ext fun h => HasL P w h D L
/-- a value that is the key, however it is carried -/
def KyV (y : V) (k : Leaf) : Prop := ∀ u, RelV y u → LfV k u
theorem ksO_new {w : World} {P : Program} {H : Hp} {h : Heap} {D : Addr} {L : List Leaf} (q : HasL P w h D L) : ObjOk P w H h D (KsO P w D L) := by
  have ⟨o, _, _, _, there, _⟩ := q
  exact ⟨q, ⟨o, there⟩, fun h1 h2 p k => HasL.kept p k⟩
section
variable {X : Cx}
theorem ksO_at {pins : List (Addr × Obj)} {σ : L2.St} {H : Hp} {s : Shared} {D : Addr} {L : List Leaf} (J : Inv X pins σ H s) (z : H D = some (KsO X.prog X.w D L)) : HasL X.prog X.w s.heap D L := (J.hok D _ z).1
/-- one more -/
theorem ksO_add {pins : List (Addr × Obj)} {σ : L2.St} {H : Hp} {s : Shared} {E : Value → Shared → Prop} {D : Addr} {L : List Leaf} {k : Leaf} {u : Value} {Q : Value → Shared → Prop}
    (J : Inv X pins σ H s) (z : H D = some (KsO X.prog X.w D L)) (ku : LfV k u) (room : L.length + 1 < scanBound)
    (goal : ∀ t, Inv X pins σ (upd H D (KsO X.prog X.w D (kAdd L k))) t → Q .none t) : wpAny (model X.prog X.w) X.A (call (.builtin "set.add") [.ref D, u]) Q E s := by
  have has := ksO_at J z
  refine call_set_add (knd := leafKind X.prog X.w) ku.1 ku.2 has room fun g same new => ?_
  have there : ∃ o, g.get? D = some o := by
    have ⟨o, _, _, _, e, _⟩ := new
    exact ⟨o, e⟩
  exact goal _ (J.write (e := D) (t' := s.toks + 1) (by rw [z]; trivial) (.inl rfl) (fun b o nb e => (same.2 b nb).trans e) there (ksO_new (hasL_next new)))
/-- {elt for target in iter}: D the new set -/
def tKs (P : Program) (w : World) (wi : TI) (g : TG) (te : TE) (vs : List Nat) : TE := fun σ H Q => wi σ H fun J H1 => ∀ D, H1 D = none → ∃ U : Nat → Nat → Hp → Prop, (∃ m, U 0 m (upd H1 D (KsO P w D []))) ∧ ∀ i m H2, U i m H2 →
  (J.stop i H2 ∧ Q (.ref D) H2) ∨ (J.go i H2 ∧ ∃ Nx : Hp → Prop, (∀ H3, Nx H3 → ∃ m1, m1 < m ∧ U (i + 1) m1 H3) ∧ ∀ x H3, J.yld i H2 x H3 → g x (wipe σ vs) H3 fun τ H4 => wipe τ vs = wipe σ vs ∧
    te τ H4 fun y H5 => ∃ (k : Leaf) (L : List Leaf), KyV y k ∧ H5 D = some (KsO P w D L) ∧ L.length + 1 < scanBound ∧ Nx (upd H5 D (KsO P w D (kAdd L k))))
abbrev voidSet (w : World) : Obj := { cls := .type "set", dict := none, data := .set #[] 0 (.fresh 0 0 (!w.params.followText "set-order")) }
theorem voidSet_has {P : Program} {w : World} {h : Heap} : HasL P w (h.push (voidSet w)) h.objs.size [] :=
  SetOf_congr ((setObjOf_fresh (knd := leafKind P w) (!w.params.followText "set-order")).setOf (Heap.get?_push_size _ rfl) (by unfold scanBound; omega)) (fun _ => rfl) rfl
theorem ks_core {pins : List (Addr × Obj)} {s : Shared} {σ : L2.St} {H : Hp} {Q : VK} {elt tg iter : Expr} {scope : Scope} {own : List (PySem.Str × Nat)} {pos pos' : Pos} {wi : TI} {g : TG} {te : TE} {use : Option (Value → Sem Unit)} {Qf : Value → Shared → Prop}
    (calm : X.calm = true) (nd : X.N.Nodup) (I0 : Inv X pins σ H s) (src : PI X tg iter wi) (blk : BlkOk X.N X.env.scope scope own)
    (tgt : InB X scope fun Y => PG Y tg g) (val : InB X scope fun Y => PE Y elt te) (fs : ∀ x, foldedSetIterable iter X.env x = pure x)
    (start : tKs X.prog X.w wi g te (own.map (·.2)) σ H Q)
    (goal : ∀ D C t m H9, Inv X pins σ H9 t → Q (.ref D) H9 → t.heap.Ns C m → FpOk X pins H9 C → compPost (model X.prog X.w) X.A X.xe use Qf (.ref D) C (.ok .next) t) :
    wpAny (model X.prog X.w) X.A (comprehension (.SetComp elt [⟨tg, iter, [], 0⟩] scope pos) scope X.env pos' (newSet (.type "set")) false (eval iter X.env) use) Qf X.xe s := by
  have cells : ∀ y ∈ scope.names, y.2 = .free → ∃ c, X.env.cells.lookup y.1 = some c := by
    intro y hy fr
    rcases blk.free y hy fr with a | a
    · exact I0.ok.has _ (.inl a)
    · exact I0.ok.has _ (.inr a)
  refine wpAny_comprehension_free (use := use) rfl fs (closure_ok cells) blk.kind (fun y hy fr => by rw [blk.uniq y hy, fr])
    (thn (src.run pins s σ H _ I0 start) fun _ t1 first => thn first fun _ t2 second => ?_)
  obtain ⟨it, fp, tn, J, G2, rfl, I2, T, st2, f2, rest⟩ := second
  refine PpSet.newSet_ok (newEnv_comp ?_)
  generalize eD : t2.heap.objs.size = D
  have noD : G2 D = none := I2.hok.fresh (Nat.le_of_eq eD)
  obtain ⟨U, ⟨m0, u0⟩, turn⟩ := rest D noD
  generalize e3 : ({ t2 with heap := t2.heap.push (voidSet X.w) } : Shared) = t3
  have hp3 : t3.heap = t2.heap.push (voidSet X.w) := by rw [← e3]
  have I3 : Inv X pins σ (upd G2 D (KsO X.prog X.w D [])) t3 := by
    rw [← e3, ← eD]
    exact I2.laid (t' := t2.toks) (fun b o e => Heap.get?_push_of_some _ e) (Nat.le_refl _) (ksO_new voidSet_has)
  have low : ∀ b ∈ fp, b < t2.heap.objs.size := by
    intro b hb
    obtain ⟨o, e, _⟩ := T.obj _ _ st2 b hb
    exact Heap.lt_size e
  have f3 : ∀ b ∈ fp, FpOk X pins (upd G2 D (KsO X.prog X.w D [])) b ∧ b < t3.heap.objs.size := by
    intro b hb
    have lt := low b hb
    refine ⟨⟨?_, (f2 b hb).2⟩, by rw [hp3, Heap.size_push]; exact Nat.lt_succ_of_lt lt⟩
    rw [upd_ne (by rw [← eD]; exact Nat.ne_of_lt lt)]
    exact (f2 b hb).1
  have st3 : tn 0 t3.heap := T.keep _ _ _ st2 fun b _ o e => by rw [hp3]; exact Heap.get?_push_of_some _ e
  have I4 := block_start I3 blk nd f3
  generalize eH : upd G2 D (KsO X.prog X.w D []) = G3 at I3 I4 u0 f3
  have pg := tgt t3 G3 t3.heap.objs.size (cellsFrom (t3.heap.objs.size + 1) scope.names (cloFrom X.env.cells scope.names [])) fp
  have pe := val t3 G3 t3.heap.objs.size (cellsFrom (t3.heap.objs.size + 1) scope.names (cloFrom X.env.cells scope.names [])) fp
  show codeAny _ _ (.compStart (.SetComp elt [⟨tg, iter, [], 0⟩] scope pos) 0 (.ref it) (.ref D) (compEnvC scope (cellsFrom (t3.heap.objs.size + 1) scope.names (cloFrom X.env.cells scope.names [])) t3.heap.objs.size X.env)) (compPost (model X.prog X.w) X.A X.xe use Qf (.ref D) t3.heap.objs.size) { t3 with heap := pushCells (t3.heap.push { cls := .type "dict", data := .dict #[] }) scope.names }
  have off : ∀ b ∈ fp, G3 b = none := fun b hb => (f3 b hb).1.1
  generalize eE : compEnvC scope (cellsFrom (t3.heap.objs.size + 1) scope.names (cloFrom X.env.cells scope.names [])) t3.heap.objs.size X.env = ε at I4 pg pe ⊢
  have loc : ε.locals = t3.heap.objs.size := by subst eE; rfl
  generalize e4 : ({ t3 with heap := pushCells (t3.heap.push { cls := .type "dict", data := .dict #[] }) scope.names } : Shared) = t4 at I4 ⊢
  have st4 : tn 0 t4.heap := T.keep _ _ _ st3 fun b _ o e => by rw [← e4]; exact pushCells_keeps _ _ _ _ (Heap.get?_push_of_some _ e)
  have foot : ∀ {ρ : L2.St} {G : Hp} {t : Shared}, Inv (X.blk t3 G3 scope ε fp) [] ρ G t → (∀ b ∈ fp, G b = none) → ∀ b ∈ fp, FpOk (X.blk t3 G3 scope ε fp) [] G b := by
    intro ρ G t V hn b hb
    exact ⟨hn b hb, (V.ok.exf b hb).1, V.ok.exfs b hb, .inl hb, fun x c e => (V.ok.exf b hb).2 x c e, fun p hp => absurd (show p ∈ ([] : List (Addr × Obj)) ++ [] from hp) (by simp)⟩
  have loop : codeAny (model X.prog X.w) X.A (.compLoop (.SetComp elt [⟨tg, iter, [], 0⟩] scope pos) 0 (.ref it) (.ref D) ε) (compPost (model X.prog X.w) X.A X.xe use Qf (.ref D) t3.heap.objs.size) t4 := by
    refine PpSet.compLoopS_any (fun n t => ∃ i G, Inv (X.blk t3 G3 scope ε fp) [] (wipe σ (own.map (·.2))) G t ∧ tn i t.heap ∧ (∀ b ∈ fp, G b = none) ∧ U i n G) ?_ m0 ⟨0, G3, I4, st4, off, u0⟩
    rintro n t5 ⟨i, G5, I5, st5, off5, u5⟩
    rcases turn i n G5 u5 with ⟨over, fin⟩ | ⟨more, Nx, nxt, step⟩
    · refine thnF (T.done (X.blk t3 G3 scope ε fp) rfl rfl rfl calm i [] t5 _ G5 (fun _ _ => False) I5 (foot I5 off5) st5 over) fun r t6 ⟨er, I6⟩ => ?_
      subst er
      have I7 : Inv X pins σ G5 t6 := I3.call' (ch := fp) I6.os I6.base I6.hok I6.bare fun b hb => ⟨(f3 b hb).1.2.2.2.1, (f3 b hb).1.2.1, (f3 b hb).1.2.2.2.2.1, (f3 b hb).1.2.2.2.2.2⟩
      have free : G5 t3.heap.objs.size = none := by
        have z : G5 ε.locals = none := I6.free
        rwa [loc] at z
      obtain ⟨m, ns, _⟩ := I6.loc
      have ns : t6.heap.Ns ε.locals m := ns
      rw [loc] at ns
      exact goal D t3.heap.objs.size t6 m G5 I7 fin ns (I3.fpOk (Nat.le_refl _) free)
    · refine thnF (T.item (X.blk t3 G3 scope ε fp) rfl rfl rfl calm i [] t5 _ G5 (fun _ _ => False) I5 (foot I5 off5) st5 more) fun r t6 ⟨u, er, h6⟩ => ?_
      subst er
      refine thnF h6 fun _ t7 ⟨x, G7, I7, r7, y7, st7, off7⟩ => ?_
      refine thnF (pg.run _ t7 _ G7 x u _ (I7.pinned (foot I7 off7) (T.obj _ _ st7)) r7 (step x G7 y7)) fun _ t8 ⟨τ, G8, I8, ew, q8⟩ => ?_
      refine wpAny_tests_nil ?_
      simp only [if_true]
      refine thnF (pe.run _ t8 τ G8 _ I8 q8) fun z t9 ⟨yv, G9, I9, r9, k, L, ky, has, room, nx⟩ => ?_
      refine ksO_add (X := X.blk t3 G3 scope ε fp) I9 has (ky _ r9) room fun ta Ia => ?_
      obtain ⟨m1, lt, un⟩ := nxt _ nx
      have pinned : ∀ b ∈ fp, ∀ o, t7.heap.get? b = some o → ta.heap.get? b = some o ∧ (upd G9 D (KsO X.prog X.w D (kAdd L k))) b = none := fun b hb o e =>
        let z := Ia.pin (b, o) (List.mem_append_right _ (List.mem_append_right _ (mem_pinsAt hb e)))
        ⟨z.1, z.2.1⟩
      have same : (wipe σ (own.map (·.2))).length = τ.length := by rw [← ew, wipe_length]
      refine ⟨m1, lt, i + 1, _, (Ia.unpinned (pins := [])).weak same (fun j v e => ?_), T.keep _ _ _ st7 fun b hb o e => (pinned b hb o e).1, fun b hb => ?_, un⟩
      · rw [← ew] at e
        exact (wipe_some e).1
      · obtain ⟨o, e, _⟩ := T.obj _ _ st7 b hb
        exact (pinned b hb o e).2
  exact PpSet.codeAny_compStart_set loop (T.self X.A 0 _ _ _ st4 loop)
theorem pe_ks {elt tg iter : Expr} {scope : Scope} {own : List (PySem.Str × Nat)} {pos : Pos} {wi : TI} {g : TG} {te : TE} (calm : X.calm = true) (nd : X.N.Nodup) (src : PI X tg iter wi) (blk : BlkOk X.N X.env.scope scope own)
    (tgt : InB X scope fun Y => PG Y tg g) (val : InB X scope fun Y => PE Y elt te) (fs : ∀ x, foldedSetIterable iter X.env x = pure x := by intro _; rfl) :
    PE X (.SetComp elt [⟨tg, iter, [], 0⟩] scope pos) (tKs X.prog X.w wi g te (own.map (·.2))) := by
  constructor
  intro pins s σ H Q I h
  rw [PpSet.eval_SetComp]
  refine ks_core calm nd I src blk tgt val fs h fun D C t m G J q ns f => ⟨m, ns, fun h2 sb => ?_⟩
  obtain ⟨a0, a1, a2, a3, a4, a5⟩ := f
  exact ⟨.ref D, G, J.turned (t' := t.toks) (fun b o nb e => (sb.2 b nb).trans e) a0 a1 a3 a4 a5, rfl, q⟩
/-- its size -/
def tLenKs (P : Program) (w : World) (t : TE) : TE := fun σ H Q => t σ H fun x H1 => ∃ (D : Addr) (L : List Leaf), x = .ref D ∧ H1 D = some (KsO P w D L) ∧ L.length < 4000 ∧ Q (.int L.length) H1
theorem pe_lenKs {a : Expr} {ta : TE} {p pos : Pos} (g1 : Gl X "len") (m1 : X.mg "len" = none) (ha : PE X a ta)
    (na : starEach [a] X.env = (false, eval a X.env) :: starEach [] X.env := by rfl) : PE X (.Call (.Name "len" p) [a] [] pos) (tLenKs X.prog X.w ta) := by
  constructor
  intro pins s σ H Q I h
  refine wpAny_Call_Name_kw (ld_blt I g1 m1 boot_len (callWith_builtin1 (args_cons (thn (ha.run pins s σ H _ I h) ?_) na) na rfl))
  rintro v s1 ⟨x, H1, I1, r1, D, L, rfl, has, few, q1⟩
  cases r1
  refine args_nil ?_
  obtain ⟨o, es, ep, t, ho, hex, hd, _, _, _, hf, hn⟩ := ksO_at I1 has
  exact call_len_set ho hex hd hf (by rw [hn]; omega) ⟨.int L.length, H1, I1.tok _, ⟨_, by rw [hn]⟩, q1⟩
end
end Vf
/-! .. as data; xs[::-1], str of a number. -/
namespace Vf
open PySem PySem.Spec L2
open PyProof.Rows hiding St
section
variable {K : PySem.W.Frag} {F H F' H' : Hp} {σ : St} {e e1 : En} {v : V} {w : Wv} {W : WX} {vs : List Nat}
theorem dp_key {v : V} {x : PyData} {k : Leaf} (d : Dp K F v x) (q : leafOf x = some k) : KyV v k := fun u r => leaf_val d q r
theorem leafs_snoc : ∀ {xs : List PyData} {ks : List Leaf} {x : PyData} {k : Leaf}, leafs xs = some ks → leafOf x = some k → leafs (xs ++ [x]) = some (ks ++ [k])
  | [], ks, x, k, h, q => by cases h; show (leafOf x).bind _ = _; rw [q]; rfl
  | y :: r, ks, x, k, h, q => by
    obtain ⟨k0, h1, h⟩ := Option.bind_eq_some_iff.mp h
    obtain ⟨ks', h2, h⟩ := Option.bind_eq_some_iff.mp h
    cases h
    show (leafOf y).bind _ = _
    rw [h1]
    show (leafs (r ++ [x])).bind _ = _
    rw [leafs_snoc h2 q]
    rfl
theorem leafs_app : ∀ {xs ys : List PyData} {ks : List Leaf}, leafs (xs ++ ys) = some ks → ∃ k1 k2, leafs xs = some k1 ∧ leafs ys = some k2 ∧ ks = k1 ++ k2
  | [], ys, ks, h => ⟨[], ks, rfl, h, rfl⟩
  | x :: r, ys, ks, h => by
    obtain ⟨k0, h1, h⟩ := Option.bind_eq_some_iff.mp h
    obtain ⟨ks', h2, h⟩ := Option.bind_eq_some_iff.mp h
    cases h
    obtain ⟨k1, k2, a, b, c⟩ := leafs_app h2
    refine ⟨k0 :: k1, k2, ?_, b, by rw [c]; rfl⟩
    show (leafOf x).bind _ = _
    rw [h1]
    show (leafs r).bind _ = _
    rw [a]
    rfl
theorem lcGo_pre {tg : PyData → En → Option En} {t el : DE} : ∀ (xs : List PyData) (e : En) (acc : List PyData) (r : List PyData × En), lcGo vs tg t el xs e acc = some r → ∃ m, r.1 = acc ++ m
  | [], e, acc, r, h => by cases h; exact ⟨[], by simp⟩
  | x :: xs, e, acc, r, h => by
    obtain ⟨e2, q1, h⟩ := Option.bind_eq_some_iff.mp h
    obtain ⟨⟨w3, e3⟩, q2, h⟩ := Option.bind_eq_some_iff.mp h
    obtain ⟨b, q3, h⟩ := Option.bind_eq_some_iff.mp h
    cases b with
    | false => exact lcGo_pre xs _ acc r h
    | true =>
      obtain ⟨⟨w4, e4⟩, q4, h⟩ := Option.bind_eq_some_iff.mp h
      obtain ⟨y, q5, h⟩ := Option.bind_eq_some_iff.mp h
      by_cases hz : acc.length ≤ 1000000
      · rw [if_pos hz] at h
        obtain ⟨m, e⟩ := lcGo_pre xs _ (acc ++ [y]) r h
        exact ⟨y :: m, by rw [e]; simp⟩
      · rw [if_neg hz] at h; cases h
/-- at a turn -/
def Kp (P : Program) (w : World) (K : PySem.W.Frag) (vs : List Nat) (σ : St) (e1 : En) (F1 H1 : Hp) (D : Addr) (r : List PyData × En) (k : En → List PyData → Option (List PyData × En)) (H' : Hp) : Prop :=
  ∃ F' e' acc ks, Rel K F' H' (wipe σ vs) e' ∧ Stp (wipe σ vs) (wpE e1 vs) F1 H1 (wipe σ vs) e' F' H' ∧ leafs acc = some ks ∧ H' D = some (KsO P w D (kSet ks)) ∧ F' D = none ∧ ¬ Owned H' (wipe σ vs) e' D ∧ k e' acc = some r
theorem kp_turn {P : Program} {w : World} {js : List Nat} {g : TG} {tg : PyData → En → Option En} {el : DE} {F1 H1 : Hp} {D : Addr} {r : List PyData × En} {Hc : Hp} {x : PyData} {xs : List PyData} {kr : List Leaf}
    (T : TgOk K js g tg) (hj : ∀ j ∈ js, j ∈ vs) (hD : H1 D = none) (d : ∀ F2 : Hp, Ex F1 F2 → Dp K F2 v x) (hk : leafs r.1 = some kr) (few : kr.length < 4000)
    (p : Kp P w K vs σ e1 F1 H1 D r (lcGo vs tg (dC (.bool true)) el (x :: xs)) Hc) :
    g v (wipe σ vs) Hc fun σ2 H2 => wipe σ2 vs = wipe σ vs ∧
      tD K WF (dEs el) σ2 H2 fun y H4 => ∃ (k : Leaf) (L : List Leaf), KyV y k ∧ H4 D = some (KsO P w D L) ∧ L.length + 1 < scanBound ∧ Kp P w K vs σ e1 F1 H1 D r (lcGo vs tg (dC (.bool true)) el xs) (upd H4 D (KsO P w D (kAdd L k))) := by
  obtain ⟨F', e', acc, ks, R, S, a4, a1, a2, a3, h⟩ := p
  obtain ⟨e2, q1, h⟩ := Option.bind_eq_some_iff.mp h
  have h : (okR (esR (el e2))).bind (fun q => (dat1 q.1).bind fun y => if acc.length ≤ 1000000 then lcGo vs tg (dC (.bool true)) el xs (wpE q.2 vs) (acc ++ [y]) else none) = some r := h
  refine T.go F' Hc _ e' v x e2 _ R (d F' S.sub) q1 fun σ2 R2 S2 hl hi => ⟨wipe_eq hl hj hi, ?_⟩
  have nb : ∀ (i : Nat), isBrw (wpE e1 vs)[i]? → i ∉ vs := fun i z => brw_wp z
  have we : wipe σ2 vs = wipe σ vs := wipe_eq hl hj hi
  have S13 := S.tr S2
  have d3 : Hc D = some (KsO P w D (kSet ks)) := a1
  have f3 : F' D = none := a2
  have o3 : ¬ Owned Hc σ2 e2 D := S2.unown a1 a3
  obtain ⟨⟨w4, e4⟩, q4, h⟩ := Option.bind_eq_some_iff.mp h
  obtain ⟨y, q5, h⟩ := Option.bind_eq_some_iff.mp h
  have ew : w4 = .d y := by
    cases w4 with
    | d z => cases q5; rfl
    | _ => cases q5
  subst ew
  refine ⟨F', e2, R2, ?_⟩
  show Go K WF (esR (el e2)) σ2 e2 F' Hc _
  rw [okR_some q4]
  intro yv H4 F4 R4 S4 V4 N4
  by_cases hz : acc.length ≤ 1000000
  · have h : lcGo vs tg (dC (.bool true)) el xs (wpE e4 vs) (acc ++ [y]) = some r := by
      have z : (if acc.length ≤ 1000000 then lcGo vs tg (dC (.bool true)) el xs (wpE e4 vs) (acc ++ [y]) else none) = some r := h
      rwa [if_pos hz] at z
    obtain ⟨m, em⟩ := lcGo_pre xs _ _ r h
    rw [em] at hk
    obtain ⟨k1, k2, b1, b2, b3⟩ := leafs_app hk
    obtain ⟨k3, k4, c1, c2, c3⟩ := leafs_app b1
    rw [a4] at c1
    cases c1
    obtain ⟨ky, y1, y2⟩ := Option.bind_eq_some_iff.mp c2
    cases y2
    have d4 : H4 D = some (KsO P w D (kSet ks)) := S4.keep _ _ d3 o3
    have f4 : F4 D = none := S4.unfrozen d3 o3 f3
    have o4 : ¬ Owned H4 σ2 e4 D := S4.unown d3 o3
    have V4 : Dp K F4 yv y := V4
    refine ⟨ky, kSet ks, dp_key V4 y1, d4, ?_, ?_⟩
    · have := kSet_len ks
      rw [b3, c3, List.length_append, List.length_append] at few
      unfold scanBound
      omega
    obtain ⟨R5, S15, o5⟩ := acc_chg (o := KsO P w D (kAdd (kSet ks) ky)) R4 (S13.tr S4) hD f4 o4
    have Rw := rel_wipe (vs := vs) R5
    have Sw := stp_wipe (vs := vs) S15 nb
    rw [we] at Rw Sw
    exact ⟨F4, wpE e4 vs, acc ++ [y], ks ++ [ky], Rw, Sw, leafs_snoc a4 y1, by rw [upd_same, kSet_snoc], f4, fun z => o5 (wp_owned (σ := σ2) (by rw [we]; exact z)), h⟩
  · have z : (if acc.length ≤ 1000000 then lcGo vs tg (dC (.bool true)) el xs (wpE e4 vs) (acc ++ [y]) else none) = some r := h
    rw [if_neg hz] at z
    cases z
theorem kp_start {P : Program} {w : World} {F1 H1 : Hp} {D : Addr} {r : List PyData × En} {k : En → List PyData → Option (List PyData × En)} (R1 : Rel K F1 H1 σ e1) (hD : H1 D = none) (h : k (wpE e1 vs) [] = some r) : Kp P w K vs σ e1 F1 H1 D r k (upd H1 D (KsO P w D [])) := by
  have Rw := rel_wipe (vs := vs) R1
  have fD := ex_none R1.ex hD
  obtain ⟨g1, g2, g3⟩ := rel_newO (o := KsO P w D []) Rw hD
  exact ⟨F1, wpE e1 vs, [], [], g1, g2, rfl, upd_same, fD, fun z => Rw.notOwned hD (g3 _ z), h⟩
theorem kp_done {P : Program} {w : World} {F1 H1 : Hp} {D : Addr} {r : List PyData × En} {tg : PyData → En → Option En} {t el : DE} {Q : VK} {e0 : En} {F0 H0 : Hp} {kr : List Leaf} (R1 : Rel K F1 H1 σ e1) (no : noOwn e1 vs = true) (S0 : Stp σ e0 F0 H0 σ e1 F1 H1)
    (hk : leafs r.1 = some kr) (few : kr.length < 4000) (h : Go K W (.ok (.d (.int (kSet kr).length)) (rst e1 r.2 vs)) σ e0 F0 H0 Q) {Hc : Hp} (p : Kp P w K vs σ e1 F1 H1 D r (lcGo vs tg t el []) Hc) :
    ∃ (D' : Addr) (L : List Leaf), V.ref D = V.ref D' ∧ Hc D' = some (KsO P w D' L) ∧ L.length < 4000 ∧ Q (.int L.length) Hc := by
  obtain ⟨F', e', acc, ks, R, S, a4, a1, a2, a3, q⟩ := p
  cases q
  rw [a4] at hk
  cases hk
  obtain ⟨RB, SB, OB⟩ := rel_back R1 no S R
  exact ⟨D, kSet kr, rfl, a1, Nat.lt_of_le_of_lt (kSet_len kr) few, h (.int (kSet kr).length) Hc F' RB (S0.tr SB) (.int _) trivial⟩
end
section
variable {X : Cx} {W : WX} {elt tg iter a : Expr} {scope : Scope} {own : List (Str × Nat)} {f el : DE} {g : TG} {tgf : PyData → En → Option En} {js : List Nat} {pos p p2 p3 : Pos}
theorem ks_read {vs : List Nat} (T : TgOk X.K js g tgf) (hj : ∀ j ∈ js, j ∈ vs) : ∀ σ H Q, tD X.K W (dU1 opLenKeys (dLc f vs tgf (dC (.bool true)) el)) σ H Q → tLenKs X.prog X.w (tKs X.prog X.w (iSeq X.K (tD X.K W (dEs f))) g (tD X.K WF (dEs el)) vs) σ H Q := by
  rintro σ H Q ⟨F, e, R, h⟩
  have h : Go X.K W (bnd (bnd (esR (f e)) fun w e1 => outC (bif noOwn e1 vs then (dat1 w).bind fun x => (items x).bind fun xs => lcGo vs tgf (dC (.bool true)) el xs (wpE e1 vs) [] else none) e1 vs) fun w1 e1 => optR ((rs e1 w1).bind opLenKeys) e1) σ e F H Q := h
  have assoc : ∀ (r : Rs) (k : Wv → En → Rs) (k2 : Wv → En → Rs), bnd (bnd r k) k2 = bnd r fun w e => bnd (k w e) k2 := fun r k k2 => by cases r <;> rfl
  rw [assoc] at h
  refine ⟨F, e, R, Go.imp (Go.bnd (r := esR (f e)) h) ?_⟩
  rintro v H1 ⟨F1, e1, w1, R1, S1, V1, N1, h1⟩
  cases no : noOwn e1 vs with
  | false => rw [no] at h1; exact h1.elim
  | true =>
    rw [no] at h1
    have h1 : Go X.K W (bnd (outC ((dat1 w1).bind fun x => (items x).bind fun xs => lcGo vs tgf (dC (.bool true)) el xs (wpE e1 vs) []) e1 vs) fun w1 e1 => optR ((rs e1 w1).bind opLenKeys) e1) σ e F H Q := h1
    cases q : (dat1 w1).bind fun x => (items x).bind fun xs => lcGo vs tgf (dC (.bool true)) el xs (wpE e1 vs) [] with
    | none => rw [q] at h1; exact h1.elim
    | some r =>
      rw [q] at h1
      have hr : Go X.K W (optR (opLenKeys (.list r.1)) (rst e1 r.2 vs)) σ e F H Q := h1
      cases q0 : opLenKeys (.list r.1) with
      | none => rw [q0] at hr; exact hr.elim
      | some wz =>
      rw [q0] at hr
      obtain ⟨zs, z0, z1⟩ := Option.bind_eq_some_iff.mp q0
      cases z0
      obtain ⟨kr, hk, z2⟩ := Option.bind_eq_some_iff.mp z1
      by_cases few : kr.length < 4000
      case neg => rw [if_neg few] at z2; cases z2
      rw [if_pos few] at z2
      cases z2
      have hr : Go X.K W (.ok (.d (.int (kSet kr).length)) (rst e1 r.2 vs)) σ e F H Q := hr
      obtain ⟨x, q1, q⟩ := Option.bind_eq_some_iff.mp q
      obtain ⟨xs, q2, q⟩ := Option.bind_eq_some_iff.mp q
      have ew : w1 = .d x := by
        cases w1 with
        | d y => cases q1; rfl
        | _ => cases q1
      subst ew
      have V1 : Dp X.K F1 v x := V1
      have next : ∀ {us : List V} {i : Nat} {y : V}, DpAll X.K F1 us xs → us[i]? = some y → ∃ z, xs.drop i = z :: xs.drop (i + 1) ∧ Dp X.K F1 y z := by
        intro us i y da hy
        obtain ⟨z, hz, dz⟩ := dpa_get da hy
        refine ⟨z, ?_, dz⟩
        have hl := (List.getElem?_eq_some_iff.mp hz).1
        rw [List.drop_eq_getElem_cons hl]
        congr 1
        exact (List.getElem?_eq_some_iff.mp hz).2
      cases x with
      | list ys =>
        cases q2
        obtain ⟨a, us, rfl, hs', da⟩ := dp_list_ref V1
        refine ⟨a, rfl, .inl ⟨⟨us, sql_ex R1.ex hs'⟩, fun D hD => ?_⟩⟩
        refine ⟨fun i m Hc => m = us.length - i ∧ i ≤ us.length ∧ Kp X.prog X.w X.K vs σ e1 F1 H1 D r (lcGo vs tgf (dC (.bool true)) el (xs.drop i)) Hc, ⟨us.length, by simp, Nat.zero_le _, kp_start R1 hD q⟩, ?_⟩
        rintro i m Hc ⟨rfl, hi, kp⟩
        have at2 : SqL X.K Hc a us := by
          obtain ⟨F', e', _, _, R', S', _⟩ := kp
          exact sql_ex (S'.sub.tr R'.ex) hs'
        by_cases lt : i < us.length
        · refine .inr ⟨⟨us, us[i], at2, by simp [lt]⟩, fun H3 => Kp X.prog X.w X.K vs σ e1 F1 H1 D r (lcGo vs tgf (dC (.bool true)) el (xs.drop (i + 1))) H3, fun H3 k3 => ⟨us.length - (i + 1), by omega, rfl, lt, k3⟩, fun y H3 yl => ?_⟩
          obtain ⟨rfl, yl⟩ := yl
          obtain ⟨z, ez, dz⟩ := next da (yl us at2)
          rw [ez] at kp
          exact kp_turn T hj hD (fun F2 x2 => dp_ex x2 _ _ dz) hk few kp
        · have ei : i = us.length := by omega
          subst ei
          refine .inl ⟨⟨us, at2, Nat.le_refl _⟩, ?_⟩
          rw [dpa_len da, List.drop_length] at kp
          exact kp_done R1 no S1 hk few hr kp
      | tuple ys =>
        cases q2
        obtain ⟨a, us, rfl, hs', da⟩ := dp_tup_ref V1
        refine ⟨a, rfl, .inr ⟨⟨us, sqt_ex R1.ex hs'⟩, fun D hD => ?_⟩⟩
        refine ⟨fun i m Hc => m = us.length - i ∧ i ≤ us.length ∧ Kp X.prog X.w X.K vs σ e1 F1 H1 D r (lcGo vs tgf (dC (.bool true)) el (xs.drop i)) Hc, ⟨us.length, by simp, Nat.zero_le _, kp_start R1 hD q⟩, ?_⟩
        rintro i m Hc ⟨rfl, hi, kp⟩
        have at2 : SqT X.K Hc a us := by
          obtain ⟨F', e', _, _, R', S', _⟩ := kp
          exact sqt_ex (S'.sub.tr R'.ex) hs'
        by_cases lt : i < us.length
        · refine .inr ⟨⟨us, us[i], at2, by simp [lt]⟩, fun H3 => Kp X.prog X.w X.K vs σ e1 F1 H1 D r (lcGo vs tgf (dC (.bool true)) el (xs.drop (i + 1))) H3, fun H3 k3 => ⟨us.length - (i + 1), by omega, rfl, lt, k3⟩, fun y H3 yl => ?_⟩
          obtain ⟨rfl, yl⟩ := yl
          obtain ⟨z, ez, dz⟩ := next da (yl us at2)
          rw [ez] at kp
          exact kp_turn T hj hD (fun F2 x2 => dp_ex x2 _ _ dz) hk few kp
        · have ei : i = us.length := by omega
          subst ei
          refine .inl ⟨⟨us, at2, Nat.le_refl _⟩, ?_⟩
          rw [dpa_len da, List.drop_length] at kp
          exact kp_done R1 no S1 hk few hr kp
      | _ => cases q2
/-- len({elt for tg in iter}) -/
theorem pd_lenKs {vs : List Nat} (g1 : Gl X "len") (m1 : X.mg "len" = none) (hc : X.calm = true) (hN : X.N.Nodup) (hi : PE X iter (tD X.K W (dEs f))) (ok : BlkOk X.N X.env.scope scope own) (hg : InB X scope fun Y => PG Y tg g) (T : TgOk X.K js g tgf) (hv : own.map (·.2) = vs) (hj : ∀ j ∈ js, j ∈ vs)
    (he : InB X scope fun Y => PE Y elt (tD X.K WF (dEs el))) (hs : ∀ x, foldedSetIterable iter X.env x = pure x := by intro _; rfl)
    (na : starEach [Expr.SetComp elt [⟨tg, iter, [], 0⟩] scope p2] X.env = (false, eval (Expr.SetComp elt [⟨tg, iter, [], 0⟩] scope p2) X.env) :: starEach [] X.env := by rfl) :
    PE X (.Call (.Name "len" p) [.SetComp elt [⟨tg, iter, [], 0⟩] scope p2] [] pos) (tD X.K W (dU1 opLenKeys (dLc f vs tgf (dC (.bool true)) el))) := by
  subst hv
  exact PE.to (pe_lenKs g1 m1 (pe_ks hc hN (pi_seq hi) ok hg he hs) na) (ks_read T hj)
end
/-! ### xs[::-1] -/
section
variable {K : PySem.W.Frag} {F H : Hp} {v : V} {X : Cx} {W : WX} {f : DE} {e : Expr}
def opRev : PyData → Option Wv
  | .list xs => some (.own xs.reverse)
  | _ => none
theorem dpa_rev : ∀ {us : List V} {xs : List PyData}, DpAll K F us xs → DpAll K F us.reverse xs.reverse
  | _, _, .nil => .nil
  | _, _, .cons h t => by
    rw [List.reverse_cons, List.reverse_cons]
    exact dpa_app (dpa_rev t) (.cons h .nil)
theorem hr_rev : Op1 K opRev (fun x H1 Q => ∃ a xs, x = V.ref a ∧ SqL K H1 a xs ∧ ∀ p, H1 p = none → Q (.ref p) (upd H1 p (.lst xs.reverse))) := by
  intro F H v1 x w Q hx d q k
  cases x with
  | list xs =>
    cases q
    obtain ⟨a, us, rfl, s, g⟩ := dh_list d
    exact ⟨a, us, rfl, s, fun p hp => k _ _ ⟨p, us.reverse, rfl, hp, rfl, dpa_rev g⟩⟩
  | _ => cases q
theorem pd_rev {k : Nat} {p1 p2 p3 pos : Pos} (ha : PE X e (tD X.K W f)) : PE X (.Subscript e (.Slice none none (some (.UnaryOp .USub (.Constant (.int 1) k p1) p2)) p3) pos) (tD X.K W (dU1 opRev f)) :=
  PE.to (pe_revL ha) (u1 hr_rev)
/-! ### str(n) -/
def opStr : List PyData → Option Wv
  | [.int i] => if i.natAbs.log2 < 1920 then some (.d (.str (toString i))) else none
  | _ => none
theorem hr_str : OpL K opStr (fun xs H Q => ∃ i, xs = [V.int i] ∧ i.natAbs.log2 < 1920 ∧ Q (.str (toString i)) H) := by
  intro F H vs xs w Q hx d q k
  match xs, q with
  | [.int i], q =>
    obtain ⟨v, rfl, d2⟩ := dhs1 d
    have q : (if i.natAbs.log2 < 1920 then some (Wv.d (.str (toString i))) else none) = some w := q
    by_cases hl : i.natAbs.log2 < 1920
    · rw [if_pos hl] at q
      cases q
      exact ⟨i, by rw [dh_int d2], hl, k _ _ (new_dat (.str _))⟩
    · rw [if_neg hl] at q; cases q
end
end Vf
/-! A def that calls itself. -/
namespace Vf
open PySem PySem.Spec L2
open PyProof.Rows hiding St
/-- nothing is said of it -/
theorem fnG_bad {P : Program} {w : World} {K : PySem.W.Frag} {mg : Str → Option Value} {base : Heap} {k : Nat} {f : Addr} {fd : FuncData} {ps : List Str} : FnG P w K mg base k f fd ps (spD K ps.length fun _ => .bad) where
  len := fun vs H Q E h => h.1
  run := fun A o s H as us vs Q E hr hg e0 hb rv ⟨_, F, ws, _, _, _, g⟩ => g.elim
end Vf
/-! Denotations, worked out: more. -/
namespace Vf
open PySem PySem.Spec L2
section
variable {f g h c : DE} {fs : List DE} {s t : DS} {e e' e1 : En} {w w1 : Wv} {ws : List Wv} {x y z : PyData} {xs ys : List PyData} {i j n : Nat}
theorem z_asgT {tg : PyData → En → Option En} : dAsgT tg f e = bndE (esR (f e)) fun w e1 => optS ((dat1 w).bind fun x => tg x e1) := (rfl)
theorem z_tt {js : List Nat} : tgTup js (.tuple xs) e = tgAll js xs e := (rfl)
theorem z_ta0 : tgAll [] [] e = some e := (rfl)
theorem z_ta1 {js : List Nat} : tgAll (j :: js) (x :: xs) e = (setW e j (.d x)).bind fun e1 => tgAll js xs e1 := (rfl)
theorem q_rev : opRev (.list xs) = some (.own xs.reverse) := (rfl)
theorem q_lenK {ks : List Leaf} (h : leafs xs = some ks) (few : xs.length < 4000) : opLenKeys (.list xs) = some (.d (.int (kSet ks).length)) := by
  show (leafs xs).bind _ = _
  rw [h]
  exact if_pos (by rw [leafs_len h]; exact few)
theorem q_lenKT {ks : List Leaf} (h : leafs xs = some ks) (few : xs.length < 4000) : opLenKeys (.tuple xs) = some (.d (.int (kSet ks).length)) := by
  show (leafs xs).bind _ = _
  rw [h]
  exact if_pos (by rw [leafs_len h]; exact few)
theorem q_isNB {a b : Bool} : opIsNotB (.bool a) (.bool b) = some (.d (.bool !decide (a = b))) := (rfl)
theorem q_tupT : opTuple [.tuple xs] = some (.d (.tuple xs)) := (rfl)
theorem q_lstL : opList [.list xs] = some (.own xs) := (rfl)
end
/-! ### data that is not deep and holds no dict -/
structure Lite (k : Nat) (x : PyData) : Prop where
  c : x.canLay0 = true
  h : x.hasDict = false
  d : x.depth ≤ k
theorem Nice.lite {k L : Nat} {x : PyData} (h : Nice k L x) : Lite k x := ⟨h.c, h.h, h.d⟩
theorem Lite.mono {k k' : Nat} {x : PyData} (h : Lite k x) (l : k ≤ k') : Lite k' x := ⟨h.c, h.h, Nat.le_trans h.d l⟩
theorem Lite.shaped {k : Nat} {d : PyData} (h : Lite k d) (hk : k ≤ 64) : SeqAt.shaped d = true := by
  unfold SeqAt.shaped
  rw [h.c, decide_eq_true (Nat.le_trans h.d hk)]
  rfl
structure LiteA (k : Nat) (xs : List PyData) : Prop where
  c : PyData.canLayAll0 xs = true
  h : PyData.hasDictAll xs = false
  d : PyData.depthAll xs ≤ k
theorem LiteA.each {k : Nat} : ∀ {xs : List PyData}, LiteA k xs → ∀ x ∈ xs, Lite k x
  | [], _, _, hx => nomatch hx
  | y :: ys, h, x, hx => by
    have c : (y.canLay0 && PyData.canLayAll0 ys) = true := h.c
    have hd : (y.hasDict || PyData.hasDictAll ys) = false := h.h
    have d : max y.depth (PyData.depthAll ys) ≤ k := h.d
    rw [Bool.and_eq_true] at c
    rw [Bool.or_eq_false_iff] at hd
    rw [Nat.max_le] at d
    rcases List.mem_cons.mp hx with z | z
    · rw [z]; exact ⟨c.1, hd.1, d.1⟩
    · exact LiteA.each ⟨c.2, hd.2, d.2⟩ x z
theorem LiteA.of {k : Nat} : ∀ {xs : List PyData}, (∀ x ∈ xs, Lite k x) → LiteA k xs
  | [], _ => ⟨rfl, rfl, Nat.zero_le _⟩
  | y :: ys, h => by
    have a := h y List.mem_cons_self
    have b := LiteA.of fun x hx => h x (List.mem_cons_of_mem _ hx)
    refine ⟨?_, ?_, ?_⟩
    · show (y.canLay0 && PyData.canLayAll0 ys) = true
      rw [a.c, b.c]; rfl
    · show (y.hasDict || PyData.hasDictAll ys) = false
      rw [a.h, b.h]; rfl
    · show max y.depth (PyData.depthAll ys) ≤ k
      exact Nat.max_le.mpr ⟨a.d, b.d⟩
theorem Lite.tup {k : Nat} {xs : List PyData} (h : Lite (k + 1) (.tuple xs)) : ∀ x ∈ xs, Lite k x := LiteA.each ⟨h.c, h.h, Nat.le_of_succ_le_succ h.d⟩
theorem Lite.lst {k : Nat} {xs : List PyData} (h : Lite (k + 1) (.list xs)) : ∀ x ∈ xs, Lite k x := LiteA.each ⟨h.c, h.h, Nat.le_of_succ_le_succ h.d⟩
theorem lite_list {k : Nat} {xs : List PyData} (h : ∀ x ∈ xs, Lite k x) : Lite (k + 1) (.list xs) := have a := LiteA.of h; ⟨a.c, a.h, Nat.succ_le_succ a.d⟩
theorem lite_tup {k : Nat} {xs : List PyData} (h : ∀ x ∈ xs, Lite k x) : Lite (k + 1) (.tuple xs) := have a := LiteA.of h; ⟨a.c, a.h, Nat.succ_le_succ a.d⟩
theorem Lite.ndict {k : Nat} {d : List (PyData × PyData)} (h : Lite k (.dict d)) : False := by
  have := h.h
  cases this
/-! ### comprehensions with a test -/
section
variable {i : Nat} {t el : DE} {e : En} {p : PyData → Bool} {g : PyData → PyData}
theorem set_back (free : e[i]? = some none) : e.set i none = e := by
  have l : i < e.length := (List.getElem?_eq_some_iff.mp free).1
  apply List.ext_getElem?
  intro j
  by_cases hj : j = i
  · rw [hj, List.getElem?_set_self l, free]
  · rw [List.getElem?_set_ne (Ne.symm hj)]
theorem rst_back (free : e[i]? = some none) : rst e e [i] = e := by
  show e.set i (e.getD i none) = e
  rw [List.getD_eq_getElem?_getD, free]
  exact set_back free
theorem lc_filter (free : e[i]? = some none) : ∀ (xs acc : List PyData), acc.length + xs.length ≤ 1000000 →
    (∀ x ∈ xs, t (e.set i (some (.d x))) = .ok (.d (.bool (p x))) (e.set i (some (.d x)))) → (∀ x ∈ xs, p x = true → esR (el (e.set i (some (.d x)))) = .ok (.d (g x)) (e.set i (some (.d x)))) →
    lcGo [i] (tgName i) t el xs e acc = some (acc ++ (xs.filter p).map g, e)
  | [], acc, _, _, _ => by
    show some (acc, e) = some (acc ++ [], e)
    rw [List.append_nil]
  | x :: xs, acc, few, ht, h => by
    have tg : tgName i x e = some (e.set i (some (.d x))) := by
      unfold tgName setW
      rw [free]
      rfl
    have back : wpE (e.set i (some (.d x))) [i] = e := by
      show (e.set i (some (.d x))).set i none = e
      rw [setSet]
      exact set_back free
    have hb := ht x List.mem_cons_self
    rw [List.length_cons] at few
    have ht' : ∀ x ∈ xs, _ := fun y hy => ht y (List.mem_cons_of_mem _ hy)
    have h' : ∀ x ∈ xs, p x = true → _ := fun y hy => h y (List.mem_cons_of_mem _ hy)
    unfold lcGo
    rw [tg]
    cases q : p x with
    | false =>
      rw [q] at hb
      simp only [z_ob, hb, z_okr, z_rs1, z_isB, cond_false, back]
      rw [lc_filter free xs acc (by omega) ht' h', List.filter_cons_of_neg (by rw [q]; exact Bool.false_ne_true)]
    | true =>
      rw [q] at hb
      have hx := h x List.mem_cons_self q
      simp only [z_ob, hb, z_okr, z_rs1, z_isB, cond_true, hx, z_d1, back]
      rw [if_pos (by omega), lc_filter free xs (acc ++ [g x]) (by rw [List.length_append]; simp only [List.length_cons, List.length_nil]; omega) ht' h', List.filter_cons_of_pos q, List.append_assoc]
      rfl
theorem dlc_filter {f : DE} {e0 : En} {src : PyData} {xs : List PyData} (hf : esR (f e0) = .ok (.d src) e) (hs : items src = some xs) (free : e[i]? = some none) (few : xs.length ≤ 1000000)
    (ht : ∀ x ∈ xs, t (e.set i (some (.d x))) = .ok (.d (.bool (p x))) (e.set i (some (.d x)))) (h : ∀ x ∈ xs, p x = true → esR (el (e.set i (some (.d x)))) = .ok (.d (g x)) (e.set i (some (.d x)))) :
    dLc f [i] (tgName i) t el e0 = .ok (.own ((xs.filter p).map g)) e := by
  have w : wpE e [i] = e := set_back free
  have no : noOwn e [i] = true := by
    show (notOwn e[i]? && true) = true
    rw [free]
    rfl
  unfold dLc
  rw [hf, z_b1, no, cond_true, z_d1, z_ob, hs, z_ob, w, lc_filter free xs [] (by simpa using few) ht h]
  show Rs.ok (.own ([] ++ _)) (rst e e [i]) = _
  rw [rst_back free, List.nil_append]
/-- a list of nobody's is gone over -/
theorem dlc_pure' {f : DE} {e0 : En} {src : PyData} {xs : List PyData} (hf : esR (f e0) = .ok (.d src) e) (hs : items src = some xs) (free : e[i]? = some none) (few : xs.length ≤ 1000000)
    (h : ∀ x ∈ xs, esR (el (e.set i (some (.d x)))) = .ok (.d (g x)) (e.set i (some (.d x)))) : dLc f [i] (tgName i) (dC (.bool true)) el e0 = .ok (.own (xs.map g)) e := by
  have a := dlc_filter (p := fun _ => true) (t := dC (.bool true)) hf hs free few (fun _ _ => rfl) (fun x hx _ => h x hx)
  rw [a, List.filter_eq_self.mpr fun _ _ => rfl]
end
end Vf
/-! [.. for i, x in enumerate(xs) if ..]; a, b = x, y. -/
namespace Vf
open PySem PySem.Spec L2
open PyProof.Rows hiding St
def dLcN (src : DE) (vs : List Nat) (tg : PyData → En → Option En) (t el : DE) : DE := fun e => bnd (esR (src e)) fun w e1 =>
  outC (bif noOwn e1 vs then (lstOf w).bind fun xs => lcGo vs tg t el (enumD 0 xs) (wpE e1 vs) [] else none) e1 vs
section
variable {K : PySem.W.Frag} {F H F' H' : Hp} {σ : St} {e e1 : En} {v : V} {W : WX} {vs : List Nat}
/-- a turn, the item's data told of the frozen part as it stands -/
theorem cp_turnF {js : List Nat} {g : TG} {tg : PyData → En → Option En} {t el : DE} {tt : TT} {F1 H1 : Hp} {D : Addr} {r : List PyData × En} {Hc F' : Hp} {e' : En} {acc : List PyData} {vacc : List V} {x : PyData} {xs : List PyData}
    (T : TgOk K js g tg) (hj : ∀ j ∈ js, j ∈ vs) (ht : ∀ σ H Q, tDT K WF t σ H Q → tt σ H Q) (hD : H1 D = none) (d : Dp K F' v x)
    (R : Rel K F' Hc (wipe σ vs) e') (S : Stp (wipe σ vs) (wpE e1 vs) F1 H1 (wipe σ vs) e' F' Hc) (a1 : Hc D = some (.lst vacc)) (a2 : F' D = none) (a3 : ¬ Owned Hc (wipe σ vs) e' D) (a4 : DpAll K F' vacc acc)
    (h : lcGo vs tg t el (x :: xs) e' acc = some r) :
    g v (wipe σ vs) Hc fun σ2 H2 => wipe σ2 vs = wipe σ vs ∧ tt σ2 H2 fun b H3 =>
      if b = true then tD K WF (dEs el) σ2 H3 fun y H4 => ∃ acc, H4 D = some (.lst acc) ∧ acc.length < sizeLine ∧ Cp K vs σ e1 F1 H1 D r (lcGo vs tg t el xs) (upd H4 D (.lst (acc ++ [y])))
      else Cp K vs σ e1 F1 H1 D r (lcGo vs tg t el xs) H3 := by
  obtain ⟨e2, q1, h⟩ := Option.bind_eq_some_iff.mp h
  obtain ⟨⟨w3, e3⟩, q2, h⟩ := Option.bind_eq_some_iff.mp h
  obtain ⟨b, q3, h⟩ := Option.bind_eq_some_iff.mp h
  refine T.go F' Hc _ e' v x e2 _ R d q1 fun σ2 R2 S2 hl hi => ⟨wipe_eq hl hj hi, ht _ _ _ ⟨F', e2, R2, ?_⟩⟩
  rw [okR_some q2]
  refine ⟨b, isB_some q3, fun H3 F3 R3 S3 => ?_⟩
  have S13 := (S.tr S2).tr S3
  have nb : ∀ (i : Nat), isBrw (wpE e1 vs)[i]? → i ∉ vs := fun i z => brw_wp z
  have we : wipe σ2 vs = wipe σ vs := wipe_eq hl hj hi
  have S23 := S2.tr S3
  have d3 : H3 D = some (.lst vacc) := S23.keep _ _ a1 a3
  have f3 : F3 D = none := S23.unfrozen a1 a3 a2
  have o3 : ¬ Owned H3 σ2 e3 D := S23.unown a1 a3
  cases b with
  | false =>
    show Cp K vs σ e1 F1 H1 D r (lcGo vs tg t el xs) H3
    have Rw := rel_wipe (vs := vs) R3
    have Sw := stp_wipe (vs := vs) S13 nb
    rw [we] at Rw Sw
    exact ⟨F3, wpE e3 vs, acc, vacc, Rw, Sw, d3, f3, fun z => o3 (wp_owned (σ := σ2) (by rw [we]; exact z)), dpa_ex S23.sub _ _ a4, h⟩
  | true =>
    show tD K WF (dEs el) σ2 H3 _
    obtain ⟨⟨w4, e4⟩, q4, h⟩ := Option.bind_eq_some_iff.mp h
    obtain ⟨y, q5, h⟩ := Option.bind_eq_some_iff.mp h
    have ew : w4 = .d y := by
      cases w4 with
      | d z => cases q5; rfl
      | _ => cases q5
    subst ew
    refine ⟨F3, e3, R3, ?_⟩
    show Go K WF (esR (el e3)) σ2 e3 F3 H3 _
    rw [okR_some q4]
    intro yv H4 F4 R4 S4 V4 N4
    by_cases hz : acc.length ≤ 1000000
    · have h : lcGo vs tg t el xs (wpE e4 vs) (acc ++ [y]) = some r := by
        have z : (if acc.length ≤ 1000000 then lcGo vs tg t el xs (wpE e4 vs) (acc ++ [y]) else none) = some r := h
        rwa [if_pos hz] at z
      have d4 : H4 D = some (.lst vacc) := S4.keep _ _ d3 o3
      have f4 : F4 D = none := S4.unfrozen d3 o3 f3
      have o4 : ¬ Owned H4 σ2 e4 D := S4.unown d3 o3
      refine ⟨vacc, d4, lt_line (by rw [dpa_len a4]; exact hz), ?_⟩
      obtain ⟨R5, S15, o5⟩ := acc_chg (o := .lst (vacc ++ [yv])) R4 (S13.tr S4) hD f4 o4
      have Rw := rel_wipe (vs := vs) R5
      have Sw := stp_wipe (vs := vs) S15 nb
      rw [we] at Rw Sw
      exact ⟨F4, wpE e4 vs, acc ++ [y], vacc ++ [yv], Rw, Sw, upd_same, f4, fun z => o5 (wp_owned (σ := σ2) (by rw [we]; exact z)), dpa_app (dpa_ex (S23.sub.tr S4.sub) _ _ a4) (.cons V4 .nil), h⟩
    · have z : (if acc.length ≤ 1000000 then lcGo vs tg t el xs (wpE e4 vs) (acc ++ [y]) else none) = some r := h
      rw [if_neg hz] at z
      cases z
end
section
variable {X : Cx} {W : WX} {f t el : DE} {g : TG} {tgf : PyData → En → Option En} {js : List Nat} {tt : TT}
theorem lcN_read {vs : List Nat} (T : TgOk X.K js g tgf) (hj : ∀ j ∈ js, j ∈ vs) (htt : ∀ σ H Q, tDT X.K WF t σ H Q → tt σ H Q) : ∀ σ H Q, tD X.K W (dLcN f vs tgf t el) σ H Q →
    tLc (iEnum X.K (tCons (tD X.K W (dEs f)) tNil)) g tt (tD X.K WF (dEs el)) vs σ H Q := by
  rintro σ H Q ⟨F, e, R, h⟩
  refine ⟨F, e, R, Go.imp (Go.bnd (r := esR (f e)) h) ?_⟩
  rintro v H1 ⟨F1, e1, w1, R1, S1, V1, N1, h1⟩
  cases no : noOwn e1 vs with
  | false => rw [no] at h1; exact h1.elim
  | true =>
    rw [no] at h1
    have h1 : Go X.K W (outC ((lstOf w1).bind fun xs => lcGo vs tgf t el (enumD 0 xs) (wpE e1 vs) []) e1 vs) σ e F H Q := h1
    cases q : (lstOf w1).bind fun xs => lcGo vs tgf t el (enumD 0 xs) (wpE e1 vs) [] with
    | none => rw [q] at h1; exact h1.elim
    | some r =>
      rw [q] at h1
      have hr : Go X.K W (.ok (.own r.1) (rst e1 r.2 vs)) σ e F H Q := h1
      obtain ⟨xs, q0, q⟩ := Option.bind_eq_some_iff.mp q
      have ew := lstOf_some q0
      subst ew
      obtain ⟨a, us, rfl, hs, da⟩ := dp_list_ref (show Dp X.K F1 v (.list xs) from V1)
      have ul := dpa_len da
      refine ⟨a, us, rfl, sql_ex R1.ex hs, fun D hD => ?_⟩
      refine ⟨fun i m Hc => m = us.length - i ∧ i ≤ us.length ∧ Cp X.K vs σ e1 F1 H1 D r (lcGo vs tgf t el ((enumD 0 xs).drop i)) Hc, ⟨us.length, rfl, Nat.zero_le _, cp_start R1 hD q⟩, ?_⟩
      rintro i m Hc ⟨rfl, hi, p⟩
      have sq : SqL X.K Hc a us := by
        obtain ⟨F', e', _, _, R', S', _⟩ := p
        exact sql_ex (S'.sub.tr R'.ex) hs
      by_cases lt : i < us.length
      · refine .inr ⟨⟨us, us[i], sq, List.getElem?_eq_getElem lt⟩, Cp X.K vs σ e1 F1 H1 D r (lcGo vs tgf t el ((enumD 0 xs).drop (i + 1))), fun H' p' => ⟨us.length - (i + 1), by omega, rfl, lt, p'⟩, ?_⟩
        rintro y H' ⟨a0, x, rfl, ha0, rfl, hx⟩
        have hx := hx us sq
        obtain ⟨z, hz, dz⟩ := dpa_get da hx
        rw [enumD_drop xs 0 i z hz] at p
        obtain ⟨F', e', acc, vacc, R', S', a1, a2, a3, a4, hk⟩ := p
        obtain ⟨R2, S2⟩ := rel_more R' ha0 (.tup [.int (i : Nat), x])
        have nDt : D ≠ a0 := ne_of_none a1 ha0
        have dT : Dp X.K (upd F' a0 (.tup [.int (i : Nat), x])) (.ref a0) (.tuple [.int ((0 + i : Nat) : Int), z]) := by
          rw [Nat.zero_add]
          exact .tup (SqT.of upd_same) (.cons (.int _) (.cons (dp_ex (S'.sub.tr S2.sub) _ _ dz) .nil))
        exact cp_turnF T hj htt hD dT R2 (S'.tr S2) (by rw [upd_ne nDt]; exact a1) (by rw [upd_ne nDt]; exact a2) (fun z => a3 ((rel_newF R' ha0).2.2 _ z)) (dpa_ex S2.sub _ _ a4) hk
      · have e : i = us.length := by omega
        subst e
        refine .inl ⟨⟨us, sq, Nat.le_refl _⟩, ?_⟩
        have z : (enumD 0 xs).drop us.length = [] := by
          have := List.drop_length (l := enumD 0 xs)
          rwa [enumD_len, ← ul] at this
        rw [z] at p
        exact cp_done R1 no hD S1 hr p
theorem pd_lcN {vs : List Nat} {elt n : Expr} {elts : List Expr} {ifs : List Expr} {scope : Scope} {own : List (Str × Nat)} {kk : Nat} {p0 p1 tpos pos : Pos} (hc : X.calm = true) (hN : X.N.Nodup) (ge : Gl X "enumerate") (me : X.mg "enumerate" = none) (hi : PE X n (tD X.K W (dEs f))) (ok : BlkOk X.N X.env.scope scope own)
    (hg : InB X scope fun Y => PG Y (.Tuple elts kk tpos) g) (T : TgOk X.K js g tgf) (hv : own.map (·.2) = vs) (hj : ∀ j ∈ js, j ∈ vs) (ht : InB X scope fun Y => PTs Y ifs tt) (htt : ∀ σ H Q, tDT X.K WF t σ H Q → tt σ H Q)
    (he : InB X scope fun Y => PE Y elt (tD X.K WF (dEs el))) (ha : starEach [n] X.env = [(false, eval n X.env)] := by rfl) :
    PE X (.ListComp elt [⟨.Tuple elts kk tpos, .Call (.Name "enumerate" p0) [n] [] p1, ifs, 0⟩] scope pos) (tD X.K W (dLcN f vs tgf t el)) := by
  subst hv
  exact PE.to (pe_lc hc hN (pi_enum ge me (pa_cons hi pa_nil ha) ha) ok hg ht he (by intro _; rfl)) (lcN_read T hj htt)
theorem ps_d_setLcN {vs : List Nat} {elt n : Expr} {elts : List Expr} {ifs : List Expr} {scope : Scope} {own : List (Str × Nat)} {kk i : Nat} {y : Str} {py p0 p1 tpos pos spos : Pos} (hc : X.calm = true) (hN : X.N.Nodup) (hy : X.N[i]? = some y) (hyl : X.env.scope.names.lookup y = some .local) (hsw : swapsWith (.ListComp elt [⟨.Tuple elts kk tpos, .Call (.Name "enumerate" p0) [n] [] p1, ifs, 0⟩] scope pos) (some (.Name y py)) spos.line X.env = pure true)
    (ge : Gl X "enumerate") (me : X.mg "enumerate" = none) (hi : PE X n (tD X.K W (dEs f))) (ok : BlkOk X.N X.env.scope scope own)
    (hg : InB X scope fun Y => PG Y (.Tuple elts kk tpos) g) (T : TgOk X.K js g tgf) (hv : own.map (·.2) = vs) (hj : ∀ j ∈ js, j ∈ vs) (ht : InB X scope fun Y => PTs Y ifs tt) (htt : ∀ σ H Q, tDT X.K WF t σ H Q → tt σ H Q)
    (he : InB X scope fun Y => PE Y elt (tD X.K WF (dEs el))) (ha : starEach [n] X.env = [(false, eval n X.env)] := by rfl) :
    PS X (.Assign [.Name y py] (.ListComp elt [⟨.Tuple elts kk tpos, .Call (.Name "enumerate" p0) [n] [] p1, ifs, 0⟩] scope pos) spos) (tDS X.K W (dAsg i (dLcN f vs tgf t el))) := by
  subst hv
  exact ps_d_set (PS.to (ps_setLc hc hN hy hyl hsw (pi_enum ge me (pa_cons hi pa_nil ha) ha) ok hg ht he (by intro _; rfl)) fun D σ H q => lcN_read T hj htt σ H _ q)
end
/-! ### a, b = x, y -/
def twoD : List Wv → Option (PyData × PyData)
  | [.d x, .d y] => some (x, y)
  | _ => none
theorem twoD_some {ws : List Wv} {p : PyData × PyData} (h : twoD ws = some p) : ws = [.d p.1, .d p.2] := by
  unfold twoD at h
  split at h
  · cases h; rfl
  · cases h
def dPar (i j : Nat) (fs : List DE) : DS := fun e => bndLS (evs fs e) fun ws e1 => optS ((twoD ws).bind fun p => (setW e1 i (.d p.1)).bind fun e2 => setW e2 j (.d p.2))
theorem ps_d_par {X : Cx} {W : WX} {i j kt k2 : Nat} {x y : Str} {px py pt pt2 pos : Pos} {a b : Expr} {fs : List DE} (hc : X.calm = true) (hN : X.N.Nodup) (hi : X.N[i]? = some x) (hj : X.N[j]? = some y) (hij : i ≠ j) (hx : X.env.scope.names.lookup x = some .local) (hy : X.env.scope.names.lookup y = some .local)
    (ha : PA X [a, b] (tDA X.K W fs)) (hw : swappedStores [.Tuple [.Name x px, .Name y py] kt pt] (.Tuple [a, b] k2 pt2) X.env = pure (some [x, y]) := by rfl) :
    PS X (.Assign [.Tuple [.Name x px, .Name y py] kt pt] (.Tuple [a, b] k2 pt2) pos) (tDS X.K W (dPar i j fs)) := by
  refine PS.to (ps_par hc hN hi hj hij hx hy ha hw) ?_
  rintro D σ H ⟨F, e, R, h⟩
  refine ⟨F, e, R, ?_⟩
  have h : SGo X.K W (bndLS (evs fs e) fun ws e1 => optS ((twoD ws).bind fun p => (setW e1 i (.d p.1)).bind fun e2 => setW e2 j (.d p.2))) σ e F H D := h
  cases q : evs fs e with
  | bad => rw [q] at h; exact h
  | err c e1 =>
    rw [q] at h
    exact fun H1 F1 R1 S1 => h σ H1 F1 R1 S1
  | ok ws e1 =>
    rw [q] at h
    have h : SGo X.K W (optS ((twoD ws).bind fun p => (setW e1 i (.d p.1)).bind fun e2 => setW e2 j (.d p.2))) σ e F H D := h
    intro vs H1 F1 R1 S1 V1 N1
    obtain ⟨e3, hp, h9⟩ := h.opt
    obtain ⟨p, h1, hp⟩ := Option.bind_eq_some_iff.mp hp
    obtain ⟨e2, hp1, hp2⟩ := Option.bind_eq_some_iff.mp hp
    have ew := twoD_some h1
    subst ew
    cases V1 with
    | cons v1 t =>
      cases t with
      | cons v2 t2 =>
        cases t2
        obtain ⟨R3, S3⟩ := setW_d S1 R1 v1 hp1
        obtain ⟨R4, S4⟩ := setW_d S3 R3 v2 hp2
        exact ⟨_, _, rfl, h9 _ H1 F1 R4 S4⟩
end Vf
namespace Vf
open PySem PySem.Spec L2
theorem z_par {i j : Nat} {fs : List DE} {e : En} : dPar i j fs e = bndLS (evs fs e) fun ws e1 => optS ((twoD ws).bind fun p => (setW e1 i (.d p.1)).bind fun e2 => setW e2 j (.d p.2)) := (rfl)
theorem z_two {x y : PyData} : twoD [.d x, .d y] = some (x, y) := (rfl)
end Vf
/-! Parameters behind a star, each with () as its default: the def, its calls by position and by name. -/
namespace Vf
open PySem PySem.Spec L2
open PyProof.Rows hiding St
/-- a def of the text with defaults -/
theorem fn_dK {P : Program} {w : World} {K : PySem.W.Frag} {mg : Str → Option Value} {base : Heap} {x qual : Str} {params : Arguments} {body : List Stmt} {sc : Scope}
    {f : Addr} {fd : FuncData} {N ps : List Str} {k : Nat} {s : DS} {dvs : List V} {kws : List (Str × V)} (F : FunD K x qual params body sc dvs kws f fd) (S : FnScope N ps sc)
    (hb : ∀ (cdv : Value) (A : Around) (outer : List Env) (s0 : Shared) (H : Hp) (E : XK), Room k (A.deeper (envOfC qual sc s0.heap.objs.size f cdv)) → Gd A →
      PSs (cxOf (L2.CX P w) P w K mg base N qual sc f cdv A outer s0 H E) body (tDS K (WX0 E) s)) :
    FnG P w K mg base (k + 1) f fd ps (spD K ps.length (fnD N.length s)) := by
  obtain ⟨oc, od, dV, kV, doc, pm, an, cdv, ct, osl, rfl, lk, hcd, _, _⟩ := F.ex
  exact fnG_of lk hcd S (fun vs H Q E h => h.1) (fun A o s H vs Q E hr hg hs => ⟨_, hb cdv A o s H E hr hg, body_read hs⟩)
/-! ### the defaults -/
def kwAd (f x : Str) (K : PySem.W.Frag) : Addr := match K.lookup (He.ga K f) with
  | some ⟨_, _, .func fd, _⟩ => (match fd.kwdefaults with
    | .ref D => (match PySem.W.nsIn K D x with
      | some (some (.ref T)) => T
      | _ => He.ga K f)
    | _ => He.ga K f)
  | _ => He.ga K f
def tupA (p : PySem.W.Frag → Addr) : PySem.W.Frag → Bool := fun K => match K.lookup (p K) with
  | some ⟨.type c, _, .seq its _, _⟩ => decide (c = "tuple") && (decide (its.size ≤ sizeLine) && He.relAll [] its.toList)
  | _ => false
theorem tupA_ok {K : PySem.W.Frag} {p : PySem.W.Frag → Addr} (h : tupA p K = true) (H : Hp) : SqT K H (p K) [] := by
  unfold tupA at h
  cases q : K.lookup (p K) with
  | none =>
    rw [q] at h
    cases h
  | some o =>
    obtain ⟨oc, od, dt, osl⟩ := o
    rw [q] at h
    cases oc with
    | type c =>
      cases dt with
      | seq its n =>
        obtain ⟨h1, h2⟩ := Bool.and_eq_true_iff.mp (show (decide (c = "tuple") && (decide (its.size ≤ sizeLine) && He.relAll [] its.toList)) = true from h)
        obtain ⟨h3, h4⟩ := Bool.and_eq_true_iff.mp h2
        exact .inr ⟨_, its, n, q, congrArg Value.type (of_decide_eq_true h1), rfl, of_decide_eq_true h3, He.relAll_ok h4⟩
      | _ => cases h
    | _ => cases dt <;> cases h
theorem _root_.L2.FunD.kbn {K : PySem.W.Frag} {x qual : Str} {params : Arguments} {body : List Stmt} {scope : Scope} {kws : List (Str × V)} {f : Addr} {fd : FuncData} {ps ks : List Str} {n : Nat} (F : FunD K x qual params body scope [] kws f fd) (hk : kws ≠ [])
    (h : ∀ (D : Addr) (doc pm : Value) (an : Option Addr) (cdv ct : Value) (us ws : List Value), us.length = n → ws.length = ks.length → bindArgs (PySem.W.fnOf x qual params body scope .none (.ref D) doc pm an cdv ct) ⟨us, ks.zip ws⟩ = pure (ps.zip (us ++ ws))) :
    KBn K fd ps n ks (fun us ws => us ++ ws) (fun vs zs => vs ++ zs) := by
  obtain ⟨oc, od, dV, kV, doc, pm, an, cdv, ct, osl, rfl, lk, hcd, hD, hK⟩ := F.ex
  rcases hD with ⟨_, rfl⟩ | ⟨e, _⟩
  · rcases hK with e | ⟨D, rfl, hq⟩
    · exact absurd e hk
    · exact ⟨fun s us ws X l1 l2 => .of_eq (h D doc pm an cdv ct us ws l1 l2), fun r1 r2 => r1.append r2⟩
  · exact absurd rfl e
/-! ### the call -/
section
variable {X : Cx} {k : Nat} {f : Addr} {fd : FuncData} {ps : List Str} {sp : Sp}
/-- what is bound by u values at hand and those that lack -/
structure BindD (K : PySem.W.Frag) (fd : FuncData) (ps : List Str) (dV : List V) : Prop where
  ex : ∃ ds, Vals dV ds ∧ Binds K fd ps ds
theorem runGD {pins : List (Addr × Obj)} {σ : St} {H : Hp} {s : Shared} {Q : VK} {us : List Value} {vs dV : List V} {E : St → XK}
    (F : FnG X.prog X.w X.K X.mg X.base k f fd ps sp) (hr : Room k X.A) (hg : Gd X.A)
    (hb : BindD X.K fd ps dV) (hx : PassesAt (L2.CX X.prog X.w) X σ (E σ))
    (I : Inv X pins σ H s) (r : Vals vs us) (h : sp (vs ++ dV) H Q (E σ)) :
    wpAny (model X.prog X.w) X.A (call (.ref f) us) (EP X pins σ Q) X.xe s := by
  obtain ⟨ds, rd, hb⟩ := hb.ex
  have rr : Vals (vs ++ dV) (us ++ ds) := r.append rd
  have hl : (us ++ ds).length = ps.length := by rw [← rr.length]; exact F.len _ _ _ _ h
  have b := hb s us I.kIn hl
  refine wpAny_call (codeAny_mono (F.run X.A X.stack s H ⟨us, []⟩ (us ++ ds) (vs ++ dV) Q (E σ) hr hg I.env0 b rr h) ?_)
  intro r' s' hq
  match r', hq with
  | .error e, hq => exact hx pins H s e s' I hq
  | .ok (.ret u), hq => exact I.after hq
def tCallD (sp : Sp) (E : St → XK) (dV : List V) (t : TA) : TE := fun σ H Q => t σ H fun vs H1 => sp (vs ++ dV) H1 Q (E σ)
theorem pe_callGD {E : St → XK} {x : Str} {p pos : Pos} {e : Expr} {es : List Expr} {t : TA} {dV : List V}
    (F : FnG X.prog X.w X.K X.mg X.base k f fd ps sp) (hr : Room k X.A) (hgd : Gd X.A)
    (hg : Gl X x) (hm : X.mg x = some (.ref f)) (hk : PySem.W.keepIn X.K (.ref f) = true)
    (hb : BindD X.K fd ps dV) (hx : ∀ σ, PassesAt (L2.CX X.prog X.w) X σ (E σ))
    (ha : PA X (e :: es) t) (hdb : (x == ("__debug__" : Str)) = false := by decide)
    (he : starEach (e :: es) X.env = (false, eval e X.env) :: starEach es X.env := by rfl)
    (hpl : (backTo pos (starEach es X.env)).any (·.1) = false := by rfl) :
    PE X (.Call (.Name x p) (e :: es) [] pos) (tCallD sp E dV t) := by
  constructor
  intro pins s σ H Q I h
  refine wpAny_Call_Name_kw (ld_glob I hg hm ?_ hdb)
  have step := thn (ha.run pos pins s σ H _ I h) (Q' := fun us s1 => X.K.In s1.heap ∧
      wpAny (model X.prog X.w) X.A (call (.ref f) us) (EP X pins σ Q) X.xe s1)
    (fun us s1 ⟨vs, H1, I1, r, q⟩ => ⟨I1.kIn, runGD F hr hgd hb (hx σ) I1 r q⟩)
  exact PySem.W.callWith_K (h₀ := X.base) I.ok.mod.kin hk step he hpl
theorem runGK {pins : List (Addr × Obj)} {σ : St} {H : Hp} {s : Shared} {Q : VK} {n : Nat} {ks : List Str} {us ws : List Value} {vs zs : List V} {E : St → XK}
    (F : FnG X.prog X.w X.K X.mg X.base k f fd ps sp) (hr : Room k X.A) (hg : Gd X.A)
    (hb : KBn X.K fd ps n ks (fun us ws => us ++ ws) (fun vs zs => vs ++ zs)) (hx : PassesAt (L2.CX X.prog X.w) X σ (E σ))
    (I : Inv X pins σ H s) (r : Vals vs us) (rz : Vals zs ws) (l1 : vs.length = n) (l2 : zs.length = ks.length) (h : sp (vs ++ zs) H Q (E σ)) :
    wpAny (model X.prog X.w) X.A (call (.ref f) us (ks.zip ws)) (EP X pins σ Q) X.xe s := by
  have r2 := hb.rel r rz
  refine wpAny_call (codeAny_mono (F.run X.A X.stack s H ⟨us, ks.zip ws⟩ (us ++ ws) (vs ++ zs) Q (E σ) hr hg I.env0 (hb.to s us ws I.kIn (r.length.symm.trans l1) (rz.length.symm.trans l2)) r2 h) ?_)
  intro r' s' hq
  match r', hq with
  | .error e, hq => exact hx pins H s e s' I hq
  | .ok (.ret u), hq => exact I.after hq
def tCallK (n m : Nat) (sp : Sp) (E : St → XK) (t tk : TA) : TE := fun σ H Q => t σ H fun vs H1 => tk σ H1 fun zs H2 => vs.length = n ∧ zs.length = m ∧ sp (vs ++ zs) H2 Q (E σ)
/-- the arguments by position, then those by name, then the call -/
theorem pe_callGK {E : St → XK} {x : Str} {p pos : Pos} {a : Expr} {as : List Expr} {kws : List Keyword} {ta tk : TA} {n : Nat} {ks : List Str}
    (F : FnG X.prog X.w X.K X.mg X.base k f fd ps sp) (room : Room k X.A) (hgd : Gd X.A)
    (gl : Gl X x) (at_ : X.mg x = some (.ref f)) (kept : PySem.W.keepIn X.K (.ref f) = true)
    (B : KBn X.K fd ps n ks (fun us ws => us ++ ws) (fun vs zs => vs ++ zs)) (lets : ∀ σ, PassesAt (L2.CX X.prog X.w) X σ (E σ))
    (pos_ : PA X (a :: as) ta) (named : PK X kws tk)
    (al : (backToKw pos (keywordEach kws X.env)).all (·.1.isSome) = true) (nm : (backToKw pos (keywordEach kws X.env)).filterMap (·.1) = ks)
    (db : (x == ("__debug__" : Str)) = false) (st : starEach (a :: as) X.env = (false, eval a X.env) :: starEach as X.env)
    (no : ((backTo pos (starEach (a :: as) X.env)).any (·.1) || (backToKw pos (keywordEach kws X.env)).any (·.1.isNone)) = false) :
    PE X (.Call (.Name x p) (a :: as) kws pos) (tCallK n ks.length sp E ta tk) := by
  constructor
  intro pins s σ H Q I want
  have second : ∀ (us : List Value) (s1 : Shared) (vs : List V) (H1 : Hp), Inv X pins σ H1 s1 → Vals vs us → tk σ H1 (fun zs H2 => vs.length = n ∧ zs.length = ks.length ∧ sp (vs ++ zs) H2 Q (E σ)) →
      wpAny (model X.prog X.w) X.A (evalAll ((backToKw pos (keywordEach kws X.env)).map (·.2))) (fun ws s2 => X.K.In s2.heap ∧ wpAny (model X.prog X.w) X.A (call (.ref f) us (ks.zip ws)) (EP X pins σ Q) X.xe s2) X.xe s1 := by
    intro us s1 vs H1 I1 r1 w1
    exact thn (named.run pos pins s1 σ H1 _ I1 w1) fun ws s2 ⟨zs, H2, I2, r2, n1, n2, w2⟩ => ⟨I2.kIn, runGK F room hgd B (lets σ) I2 r1 r2 n1 n2 w2⟩
  subst nm
  exact wpAny_Call_Name_kw (ld_glob I gl at_ (PySem.W.callWith_KW (h₀ := X.base) I.ok.mod.kin kept al (thn (pos_.run pos pins s σ H _ I want) fun us s1 ⟨vs, H1, I1, r1, w1⟩ => second us s1 vs H1 I1 r1 w1) no st) db)
end
/-! ### in the denotation -/
/-- the default -/
abbrev eT : Wv := .d (.tuple [])
def dCallD (n m : Nat) (f : FD) (fs : List DE) : DE := fun e => bndL (evs fs e) fun ws e1 => bif ws.length == n && ws.all isDat then rfR (f (ws ++ List.replicate m eT)) (fun w _ => .ok w e1) e1 else .bad
def dCallK (n m : Nat) (f : FD) (fs fk : List DE) : DE := fun e => bndL (evs fs e) fun ws e1 => bndL (evs fk e1) fun zs e2 => bif (ws.length == n && ws.all isDat) && (zs.length == m && zs.all isDat) then rfR (f (ws ++ zs)) (fun w _ => .ok w e2) e2 else .bad
theorem z_dcd {n m : Nat} {f : FD} {fs : List DE} {e : En} : dCallD n m f fs e = bndL (evs fs e) fun ws e1 => bif ws.length == n && ws.all isDat then rfR (f (ws ++ List.replicate m eT)) (fun w _ => .ok w e1) e1 else .bad := (rfl)
section
variable {X : Cx} {W : WX}
theorem PK.to' {kws : List Keyword} {t t' : TA} (h : PK X kws t) (k : ∀ σ H Q, t' σ H Q → t σ H Q) : PK X kws t' := ⟨fun bp pins s σ H Q I q => h.run bp pins s σ H Q I (k _ _ _ q)⟩
theorem pdk_nil : PK X [] (tDA X.K W []) := PK.to' pk_nil fun σ H Q ⟨F, e, R, h⟩ => h [] H F R Stp.rfl' .nil .nil
theorem pdk_cons {nm : Option Str} {a : Expr} {kpos : Pos} {kws : List Keyword} {f : DE} {fs : List DE} (ha : PE X a (tD X.K W f)) (hr : PK X kws (tDA X.K W fs)) : PK X (⟨nm, a, kpos⟩ :: kws) (tDA X.K W (f :: fs)) := by
  refine PK.to' (pk_cons ha hr) ?_
  rintro σ H Q ⟨F, e, R, h⟩
  refine ⟨F, e, R, ?_⟩
  have h : GoL X.K W (bndC (f e) fun w e1 => consR w (evs fs e1)) σ e F H Q := h
  cases q : f e with
  | bad => rw [q] at h; exact h
  | err c e1 => rw [q] at h; exact h
  | ok w e1 =>
    rw [q] at h
    have h : GoL X.K W (consR w (evs fs e1)) σ e F H Q := h
    intro v H1 F1 R1 S1 V1 N1
    refine ⟨F1, e1, R1, ?_⟩
    cases q2 : evs fs e1 with
    | bad => rw [q2] at h; exact h
    | err c e2 =>
      rw [q2] at h
      exact fun H2 F2 R2 S2 => h H2 F2 R2 (S1.tr S2)
    | ok ws e2 =>
      rw [q2] at h
      exact fun vs H2 F2 R2 S2 V2 N2 => h (v :: vs) H2 F2 R2 (S1.tr S2) (.cons (V1.mono R1.ex R2.ex S2) V2) (nws_cons R1.ex R2.ex S1.there S2 V1 N1 V2 N2)
theorem vvs_app {K : PySem.W.Frag} {F H : Hp} {σ : St} {e : En} : ∀ {vs zs : List V} {ws xs : List Wv}, VVs K F H σ e vs ws → VVs K F H σ e zs xs → VVs K F H σ e (vs ++ zs) (ws ++ xs)
  | _, _, _, _, .nil, h => h
  | _, _, _, _, .cons a t, h => .cons a (vvs_app t h)
theorem vvs_mono {K : PySem.W.Frag} {F H F' H' : Hp} {σ : St} {e e' : En} (x0 : Ex F H) (x1 : Ex F' H') (S : Stp σ e F H σ e' F' H') : ∀ {vs : List V} {ws : List Wv}, VVs K F H σ e vs ws → VVs K F' H' σ e' vs ws
  | _, _, .nil => .nil
  | _, _, .cons a t => .cons (a.mono x0 x1 S) (vvs_mono x0 x1 S t)
/-- behind the arguments: the call itself -/
theorem go_call {K : PySem.W.Frag} {F H F1 H1 : Hp} {σ : St} {e e1 : En} {g : FD} {vs : List V} {ws : List Wv} {Q : VK} (q2 : ws.all isDat = true) (R1 : Rel K F1 H1 σ e1) (S1 : Stp σ e F H σ e1 F1 H1) (V1 : VVs K F1 H1 σ e1 vs ws)
    (h1 : Go K W (rfR (g ws) (fun w _ => .ok w e1) e1) σ e F H Q) : spD K ws.length g vs H1 Q (fun cls d H' => W cls d σ H') := by
  have no : ∀ p, ¬ Owned H1 (vs.map some) (ws.map some) p := fun p ⟨i, o⟩ => dat_ow q2 o
  refine ⟨by rw [vvs_len V1], F1, ws, rfl, dat_arg q2, rel_args R1 V1 q2, ?_⟩
  cases z : g ws with
  | bad => rw [z] at h1; exact h1
  | err c ws' =>
    rw [z] at h1
    intro H' F' R' S'
    obtain ⟨g1, g2, _⟩ := called0 R1 S' R'.ex no
    exact h1 H' F' g1 (S1.tr g2)
  | ok w ws' =>
    rw [z] at h1
    intro v H' F' R' S' V' N'
    obtain ⟨g1, g2, g3⟩ := called0 R1 S' R'.ex no
    cases w with
    | loc i => exact h1.elim
    | _ => exact h1 v H' F' g1 (S1.tr g2) (ret_vv R1 (fun a => (g3 a).mp) (fun _ => nofun) V' N') (N'.back S1.there)
/-- a def with m parameters behind the star -/
def HasK (P : Program) (w : World) (K : PySem.W.Frag) (mg : Str → Option Value) (base : Heap) (k : Nat) (x : Str) (ps : List Str) (n : Nat) (ks : List Str) (g : FD) : Prop :=
  ∃ (fd : FuncData) (dV : List V), FnG P w K mg base k (He.ga K x) fd ps (spD K ps.length g) ∧ KBn K fd ps n ks (fun us ws => us ++ ws) (fun vs zs => vs ++ zs) ∧ BindD K fd ps dV ∧ dV.length = ks.length ∧ (∀ v ∈ dV, ∀ F, Dp K F v (.tuple [])) ∧ ps.length = n + ks.length ∧
    PySem.W.keepIn K (.ref (He.ga K x)) = true ∧ mg x = some (.ref (He.ga K x))
theorem vvs_dfl {K : PySem.W.Frag} {F H : Hp} {σ : St} {e : En} : ∀ {dV : List V}, (∀ v ∈ dV, ∀ F, Dp K F v (.tuple [])) → VVs K F H σ e dV (List.replicate dV.length eT)
  | [], _ => .nil
  | v :: dV, h => .cons (h v List.mem_cons_self F) (vvs_dfl fun x hx => h x (List.mem_cons_of_mem _ hx))
variable {k k' n m : Nat} {ps ks : List Str} {g : FD} {x : Str} {p pos : Pos} {a : Expr} {as : List Expr} {fs fk : List DE} {kws : List Keyword}
theorem kalD (h : HasK X.prog X.w X.K X.mg X.base k x ps n ks g) (hk : k ≤ k') (hr : Room k' X.A) (hgd : Gd X.A) (tk : Takes X W) (hg : Gl X x) (ha : PA X (a :: as) (tDA X.K W fs)) (hm : ks.length = m := by rfl) (hdb : (x == ("__debug__" : Str)) = false := by decide)
    (he : starEach (a :: as) X.env = (false, eval a X.env) :: starEach as X.env := by rfl) (hpl : (backTo pos (starEach as X.env)).any (·.1) = false := by rfl) :
    PE X (.Call (.Name x p) (a :: as) [] pos) (tD X.K W (dCallD n m g fs)) := by
  obtain ⟨fd, dV, G, B, BD, ld, hd, lp, kp, mm⟩ := h
  subst hm
  refine PE.to (pe_callGD (E := WE W) (G.mono hk) hr hgd hg mm kp BD (fun σ => passAt tk σ) ha hdb he hpl) ?_
  rintro σ H Q ⟨F, e, R, h⟩
  refine ⟨F, e, R, GoL.imp (Go.bndL h) ?_⟩
  rintro vs H1 ⟨F1, e1, ws, R1, S1, V1, N1, h1⟩
  have h1 : Go X.K W (bif ws.length == n && ws.all isDat then rfR (g (ws ++ List.replicate ks.length eT)) (fun w _ => .ok w e1) e1 else .bad) σ e F H Q := h1
  cases q : (ws.length == n && ws.all isDat) with
  | false => rw [q] at h1; exact h1.elim
  | true =>
    rw [q] at h1
    have h1 : Go X.K W (rfR (g (ws ++ List.replicate ks.length eT)) (fun w _ => .ok w e1) e1) σ e F H Q := h1
    obtain ⟨q1, q2⟩ := Bool.and_eq_true_iff.mp q
    have hl : ws.length = n := by simpa using q1
    have q3 : (ws ++ List.replicate ks.length eT).all isDat = true := by
      rw [List.all_append, q2, Bool.true_and]
      exact List.all_eq_true.mpr fun x hx => by rw [(List.mem_replicate.mp hx).2]; rfl
    have z := go_call q3 R1 S1 (vvs_app V1 (by rw [← ld]; exact vvs_dfl hd)) h1
    rw [List.length_append, List.length_replicate, hl, ← lp] at z
    exact z
theorem kalK (h : HasK X.prog X.w X.K X.mg X.base k x ps n ks g) (hk : k ≤ k') (hr : Room k' X.A) (hgd : Gd X.A) (tk : Takes X W) (hg : Gl X x) (ha : PA X (a :: as) (tDA X.K W fs)) (hkw : PK X kws (tDA X.K W fk)) (hm : ks.length = m := by rfl)
    (hall : (backToKw pos (keywordEach kws X.env)).all (·.1.isSome) = true := by rfl) (hks : (backToKw pos (keywordEach kws X.env)).filterMap (·.1) = ks := by rfl)
    (hdb : (x == ("__debug__" : Str)) = false := by decide) (he : starEach (a :: as) X.env = (false, eval a X.env) :: starEach as X.env := by rfl)
    (hpl : ((backTo pos (starEach (a :: as) X.env)).any (·.1) || (backToKw pos (keywordEach kws X.env)).any (·.1.isNone)) = false := by rfl) :
    PE X (.Call (.Name x p) (a :: as) kws pos) (tD X.K W (dCallK n m g fs fk)) := by
  obtain ⟨fd, dV, G, B, BD, ld, hd, lp, kp, mm⟩ := h
  subst hm
  refine PE.to (pe_callGK (E := WE W) (G.mono hk) hr hgd hg mm kp B (fun σ => passAt tk σ) ha hkw hall hks hdb he hpl) ?_
  rintro σ H Q ⟨F, e, R, h⟩
  refine ⟨F, e, R, GoL.imp (Go.bndL h) ?_⟩
  rintro vs H1 ⟨F1, e1, ws, R1, S1, V1, N1, h1⟩
  refine ⟨F1, e1, R1, ?_⟩
  have h1 : Go X.K W (bndL (evs fk e1) fun zs e2 => bif (ws.length == n && ws.all isDat) && (zs.length == ks.length && zs.all isDat) then rfR (g (ws ++ zs)) (fun w _ => .ok w e2) e2 else .bad) σ e F H Q := h1
  cases q2 : evs fk e1 with
  | bad => rw [q2] at h1; exact h1
  | err c e2 =>
    rw [q2] at h1
    exact fun H2 F2 R2 S2 => h1 H2 F2 R2 (S1.tr S2)
  | ok xs e2 =>
    rw [q2] at h1
    intro zs H2 F2 R2 S2 V2 N2
    have h1 : Go X.K W (bif (ws.length == n && ws.all isDat) && (xs.length == ks.length && xs.all isDat) then rfR (g (ws ++ xs)) (fun w _ => .ok w e2) e2 else .bad) σ e F H Q := h1
    cases q : ((ws.length == n && ws.all isDat) && (xs.length == ks.length && xs.all isDat)) with
    | false => rw [q] at h1; exact h1.elim
    | true =>
      rw [q] at h1
      have h1 : Go X.K W (rfR (g (ws ++ xs)) (fun w _ => .ok w e2) e2) σ e F H Q := h1
      obtain ⟨qa, qb⟩ := Bool.and_eq_true_iff.mp q
      obtain ⟨a1, a2⟩ := Bool.and_eq_true_iff.mp qa
      obtain ⟨b1, b2⟩ := Bool.and_eq_true_iff.mp qb
      have l1 : ws.length = n := by simpa using a1
      have l2 : xs.length = ks.length := by simpa using b1
      have z := go_call (by rw [List.all_append, a2, b2]; rfl) R2 (S1.tr S2) (vvs_app (vvs_mono R1.ex R2.ex S2 V1) V2) h1
      rw [List.length_append, l1, l2, ← lp] at z
      exact ⟨by rw [vvs_len V1, l1], by rw [vvs_len V2, l2], z⟩
end
end Vf
/-! What is never reached; list(range(n)), tuple(range(n)); comprehensions over range(k, n); str of data. -/
namespace Vf
open PySem PySem.Spec L2
open PyProof.Rows hiding St
section
variable {X : Cx} {W : WX} {f t el : DE} {x : Expr} {e : Expr}
/-- nothing is promised -/
def dBad : DE := fun _ => .bad
theorem pd_bad {e : Expr} : PE X e (tD X.K W dBad) := ⟨fun pins s σ H Q I h => by
  obtain ⟨F, e, R, h⟩ := h
  exact (show False from h).elim⟩
/-! ### list(range(n)) -/
def opLstRg : PyData → Option Wv
  | .int n => if 0 ≤ n ∧ n ≤ 1000000 then some (.own ((rngD 0 n.toNat))) else none
  | _ => none
def opTupRg : PyData → Option Wv
  | .int n => if 0 ≤ n ∧ n ≤ 1000000 then some (.d (.tuple ((rngD 0 n.toNat)))) else none
  | _ => none
theorem dpa_map {K : PySem.W.Frag} {F : Hp} : ∀ (l : List Nat) (g : Nat → Int), DpAll K F (l.map fun i => V.int (g i)) (l.map fun i => PyData.int (g i))
  | [], _ => .nil
  | a :: l, g => .cons (.int _) (dpa_map l g)
theorem rngD_map : ∀ (n : Nat) (lo : Int), rngD lo n = (List.range n).map fun i => PyData.int (lo + (i : Nat))
  | 0, _ => rfl
  | n + 1, lo => by
    show PyData.int lo :: rngD (lo + 1) n = _
    rw [rngD_map n (lo + 1), List.range_succ_eq_map, List.map_cons, List.map_map]
    congr 1
    · simp
    · refine List.map_congr_left fun i _ => ?_
      show PyData.int (lo + 1 + (i : Int)) = PyData.int (lo + ((i + 1 : Nat) : Int))
      congr 1
      omega
theorem dpa_rg {K : PySem.W.Frag} {F : Hp} (n : Nat) : DpAll K F (rgV 0 (n : Int)) (rngD 0 n) := by
  unfold rgV
  rw [rngD_map, show ((n : Int) - 0).toNat = n by omega]
  exact dpa_map _ fun i => 0 + (i : Int)
theorem hr_lstRg {K : PySem.W.Frag} : Op1 K opLstRg (fun x H1 Q => ∃ n, x = V.int n ∧ (RgOk 0 n ∧ ∀ q, H1 q = none → Q (.ref q) (upd H1 q (.lst (rgV 0 n))))) := by
  intro F H v1 x w Q hx d q k
  cases x with
  | int n =>
    have q : (if 0 ≤ n ∧ n ≤ 1000000 then some (Wv.own ((rngD 0 n.toNat))) else none) = some w := q
    by_cases h : 0 ≤ n ∧ n ≤ 1000000
    · rw [if_pos h] at q
      cases q
      obtain ⟨m, rfl⟩ : ∃ m : Nat, n = (m : Int) := ⟨n.toNat, by omega⟩
      refine ⟨(m : Int), dh_int d, RgOk.of_le (by decide) (by omega) (by decide) (by omega), fun l hl => k _ _ ⟨l, rgV 0 (m : Int), rfl, hl, rfl, ?_⟩⟩
      exact dpa_rg m
    · rw [if_neg h] at q; cases q
  | _ => cases q
theorem hr_tupRg {K : PySem.W.Frag} : Op1 K opTupRg (fun x H1 Q => ∃ n, x = V.int n ∧ (RgOk 0 n ∧ ∀ q, H1 q = none → Q (.ref q) (upd H1 q (.tup (rgV 0 n))))) := by
  intro F H v1 x w Q hx d q k
  cases x with
  | int n =>
    have q : (if 0 ≤ n ∧ n ≤ 1000000 then some (Wv.d (.tuple ((rngD 0 n.toNat)))) else none) = some w := q
    by_cases h : 0 ≤ n ∧ n ≤ 1000000
    · rw [if_pos h] at q
      cases q
      obtain ⟨m, rfl⟩ : ∃ m : Nat, n = (m : Int) := ⟨n.toNat, by omega⟩
      exact ⟨(m : Int), dh_int d, RgOk.of_le (by decide) (by omega) (by decide) (by omega), fun l hl => k _ _ (.inr ⟨l, rgV 0 (m : Int), _, rfl, hl, rfl, rfl, dpa_rg m⟩)⟩
    · rw [if_neg h] at q; cases q
  | _ => cases q
theorem pd_lstRg {p p2 pos pos2 : Pos} (hc : X.calm = true) (hg : Gl X "list") (hm : X.mg "list" = none) (gr : Gl X "range") (mr : X.mg "range" = none) (ha : PE X e (tD X.K W f)) (na : starEach [e] X.env = (false, eval e X.env) :: starEach [] X.env := by rfl) :
    PE X (.Call (.Name "list" p) [.Call (.Name "range" p2) [e] [] pos2] [] pos) (tD X.K W (dU1 opLstRg f)) := PE.to (pe_listRg hc hg hm (prg_1 gr mr ha na)) (u1 hr_lstRg)
theorem pd_tupRg {p p2 pos pos2 : Pos} (hc : X.calm = true) (hg : Gl X "tuple") (hm : X.mg "tuple" = none) (gr : Gl X "range") (mr : X.mg "range" = none) (ha : PE X e (tD X.K W f)) (na : starEach [e] X.env = (false, eval e X.env) :: starEach [] X.env := by rfl) :
    PE X (.Call (.Name "tuple" p) [.Call (.Name "range" p2) [e] [] pos2] [] pos) (tD X.K W (dU1 opTupRg f)) := PE.to (pe_tupRg hc hg hm (prg_1 gr mr ha na)) (u1 hr_tupRg)
end
/-! ### over range(k, n), k a number of the text -/
section
variable {X : Cx} {W : WX} {f t el : DE} {js vs : List Nat} {g : TG} {tgf : PyData → En → Option En} {tt : TT}
def dLcR2 (k : Int) (f : DE) (vs : List Nat) (tg : PyData → En → Option En) (t el : DE) : DE := fun e => bnd (f e) fun w e1 =>
  outC (bif noOwn e1 vs then (rs e1 w).bind fun x => (rngOf [.int k, x]).bind fun p => lcGo vs tg t el (rngD p.1 p.2) (wpE e1 vs) [] else none) e1 vs
theorem lcr2_read {k : Int} {vs : List Nat} (T : TgOk X.K js g tgf) (hj : ∀ j ∈ js, j ∈ vs) (htt : ∀ σ H Q, tDT X.K WF t σ H Q → tt σ H Q) : ∀ σ H Q, tD X.K W (dLcR2 k f vs tgf t el) σ H Q → tLc (iRng2 (tCons (tD X.K W (dC (.int k))) (tCons (tD X.K W f) tNil))) g tt (tD X.K WF (dEs el)) vs σ H Q := by
  rintro σ H Q ⟨F, e, R, h⟩
  refine ⟨F, e, R, fun v0 H0 F0 R0 S0 V0 N0 => ?_⟩
  have e0 : v0 = V.int k := by
    cases V0
    rfl
  subst e0
  refine ⟨F0, e, R0, Go.imp (Go.bnd (Go.later S0 h)) ?_⟩
  rintro v H1 ⟨F1, e1, w1, R1, S1, V1, N1, h1⟩
  cases no : noOwn e1 vs with
  | false => rw [no] at h1; exact h1.elim
  | true =>
    rw [no] at h1
    have h1 : Go X.K W (outC ((rs e1 w1).bind fun x => (rngOf [.int k, x]).bind fun p => lcGo vs tgf t el (rngD p.1 p.2) (wpE e1 vs) []) e1 vs) σ e F0 H0 Q := h1
    cases q : (rs e1 w1).bind fun x => (rngOf [.int k, x]).bind fun p => lcGo vs tgf t el (rngD p.1 p.2) (wpE e1 vs) [] with
    | none => rw [q] at h1; exact h1.elim
    | some r =>
      rw [q] at h1
      have hr : Go X.K W (.ok (.own r.1) (rst e1 r.2 vs)) σ e F0 H0 Q := h1
      obtain ⟨x, q1, q⟩ := Option.bind_eq_some_iff.mp q
      obtain ⟨⟨lo, n⟩, q2, q⟩ := Option.bind_eq_some_iff.mp q
      cases x with
      | int j =>
        have q2 : (if (-(2 ^ 62) ≤ k ∧ k < 2 ^ 62) ∧ -(2 ^ 62) ≤ j ∧ j < 2 ^ 62 then some (k, (j - k).toNat) else none) = some (lo, n) := q2
        by_cases hb : (-(2 ^ 62) ≤ k ∧ k < 2 ^ 62) ∧ -(2 ^ 62) ≤ j ∧ j < 2 ^ 62
        · rw [if_pos hb] at q2
          cases q2
          refine ⟨k, j, by rw [dh_int (rs_dh R1 V1 q1)], ⟨hb.1.1, hb.1.2, hb.2.1, hb.2.2⟩, fun D hD => ?_⟩
          refine lc_range (lo := k) (n := (j - k).toNat) (fun i H' => Cp X.K vs σ e1 F1 H1 D r (lcGo vs tgf t el ((rngD k (j - k).toNat).drop i)) H') (cp_start R1 hD q) (fun i H' hi p => ?_) (fun H' p => ?_)
          · rw [rngD_drop k _ i hi] at p
            exact cp_turn T hj htt hD (fun F2 _ => .int _) p
          · have z : (rngD k (j - k).toNat).drop (j - k).toNat = [] := by
              have := List.drop_length (l := rngD k (j - k).toNat)
              rwa [rngD_len] at this
            rw [z] at p
            exact cp_done R1 no hD S1 hr p
        · rw [if_neg hb] at q2; cases q2
      | _ => cases q2
section
variable {elt tg : Expr} {ifs : List Expr} {scope : Scope} {own : List (Str × Nat)} {gt : TG} {pos : Pos}
theorem pd_lcR2 {k : Int} {j : Nat} {p0 p1 p2 : Pos} {n : Expr} (hc : X.calm = true) (hN : X.N.Nodup) (gr : Gl X "range") (mr : X.mg "range" = none) (hi : PE X n (tD X.K W f)) (ok : BlkOk X.N X.env.scope scope own) (hg : InB X scope fun Y => PG Y tg gt) (T : TgOk X.K js gt tgf) (hv : own.map (·.2) = vs) (hj : ∀ j ∈ js, j ∈ vs)
    (ht : InB X scope fun Y => PTs Y ifs tt) (htt : ∀ σ H Q, tDT X.K WF t σ H Q → tt σ H Q) (he : InB X scope fun Y => PE Y elt (tD X.K WF (dEs el))) (ha : starEach [.Constant (.int k) j p2, n] X.env = [(false, eval (.Constant (.int k) j p2) X.env), (false, eval n X.env)] := by rfl) (ha2 : starEach [n] X.env = [(false, eval n X.env)] := by rfl) :
    PE X (.ListComp elt [⟨tg, .Call (.Name "range" p0) [.Constant (.int k) j p2, n] [] p1, ifs, 0⟩] scope pos) (tD X.K W (dLcR2 k f vs tgf t el)) := by
  subst hv
  exact PE.to (pe_lc hc hN (pi_range2 gr mr (pa_cons (pd_c pe_int (fun _ => .int _)) (pa_cons hi pa_nil ha2) (by rw [ha, ha2])) ha ha2) ok hg ht he (by intro _; rfl)) (lcr2_read T hj htt)
end
end
/-! ### str of a list or a tuple -/
section
variable {X : Cx} {K : PySem.W.Frag}
def opStrD : List PyData → Option Wv
  | [.list xs] => if rpOk (.list xs) then some (.d (.str (PyData.list xs).shown)) else none
  | [.tuple xs] => if rpOk (.tuple xs) then some (.d (.str (PyData.tuple xs).shown)) else none
  | _ => none
def rStrD (K : PySem.W.Frag) : List V → Hp → VK → Prop := fun xs H Q => ∃ v x, xs = [v] ∧ Dp K H v x ∧ rpOk x = true ∧ ((∃ ys, x = .list ys) ∨ ∃ ys, x = .tuple ys) ∧ Q (.str x.shown) H
theorem cr_strD (hg : X.A.guards = some []) (hu : X.A.units + 67 < cLine) : CallR X (.type "str") (rStrD X.K) := by
  intro pins s σ H xs us Q I r h
  obtain ⟨v, x, rfl, d, hp, sq, q⟩ := h
  obtain ⟨u, rfl, rx⟩ := vals1 r
  obtain ⟨as, rd⟩ := Dp.reads I x v u d rx
  obtain ⟨p1, p2, p3, p4⟩ := rp_parts hp
  have dep := SeqAt.depth_of_shaped p2
  have ref : ∀ a, u = Value.ref a → wpAny (model X.prog X.w) X.A (call (.type "str") [u]) (EP X pins σ Q) X.xe s := fun a e => by
    subst e
    exact str_of_reads rd p1 (fun z => by rw [p3] at z; cases z) hg (by omega) (fun _ _ e => e) (fun h' t tk kp => ⟨.str x.shown, H, I.kept kp, ⟨t, rfl⟩, q⟩) (le_line p4)
  rcases sq with ⟨ys, rfl⟩ | ⟨ys, rfl⟩
  · obtain ⟨a, us, rfl, _⟩ := dp_list_ref d
    exact ref a rx
  · obtain ⟨a, us, rfl, _⟩ := dp_tup_ref d
    exact ref a rx
theorem hr_strD : OpL K opStrD (rStrD K) := by
  intro F H vs xs w Q hx d q k
  match xs, q with
  | [.list ys], q =>
    have q : (if rpOk (.list ys) then some (Wv.d (.str (PyData.list ys).shown)) else none) = some w := q
    by_cases hp : rpOk (.list ys) = true
    · rw [if_pos hp] at q
      cases q
      obtain ⟨v, rfl, d1⟩ := dhs1 d
      exact ⟨v, _, rfl, d1.dp hx, hp, .inl ⟨ys, rfl⟩, k _ _ (new_dat (.str _))⟩
    · rw [if_neg hp] at q; cases q
  | [.tuple ys], q =>
    have q : (if rpOk (.tuple ys) then some (Wv.d (.str (PyData.tuple ys).shown)) else none) = some w := q
    by_cases hp : rpOk (.tuple ys) = true
    · rw [if_pos hp] at q
      cases q
      obtain ⟨v, rfl, d1⟩ := dhs1 d
      exact ⟨v, _, rfl, d1.dp hx, hp, .inr ⟨ys, rfl⟩, k _ _ (new_dat (.str _))⟩
    · rw [if_neg hp] at q; cases q
end
end Vf
/-! while, by fuel; sorted of whole numbers. -/
namespace Vf
open PySem PySem.Spec L2
open PyProof.Rows hiding St
def whGo (t : DE) (s : DS) : Nat → En → Out
  | 0, _ => .bad
  | n + 1, e => bndE (t e) fun w e1 => brS (isB (rs e1 w)) (loopS (s e1) (whGo t s n)) (.nx e1)
/-- at most m turns -/
def dWhile (m : Nat) (t : DE) (s : DS) : DS := whGo t s m
section
variable {X : Cx} {W : WX} {t : DE} {s : DS} {c : Expr} {body : List Stmt} {pos : Pos}
theorem ps_d_while (m : Nat) (hp : PassesOwn (model X.prog X.w) X.A X.env X.xe) (hc : PT X c (tDT X.K W t)) (hb : PSs X body (tDS X.K W s)) : PS X (.While c body [] pos) (tDS X.K W (dWhile m t s)) := by
  refine PS.to (ps_while hp hc hb) ?_
  rintro D σ H ⟨F, e, R, h⟩
  refine ⟨fun n σ' H' => Lp X.K W σ e F H D (whGo t s n) σ' H', ⟨m, F, e, R, Stp.rfl', h⟩, ?_⟩
  rintro n σ1 H1 ⟨F1, e1, R1, S1, h1⟩
  cases n with
  | zero => exact (show False from h1).elim
  | succ n =>
    have h1 : SGo X.K W (bndE (t e1) fun w e2 => brS (isB (rs e2 w)) (loopS (s e2) (whGo t s n)) (.nx e2)) σ e F H D := h1
    refine ⟨F1, e1, R1, ?_⟩
    cases q : t e1 with
    | bad => rw [q] at h1; exact h1
    | err k e2 =>
      rw [q] at h1
      exact fun H' F' a b => h1 σ1 H' F' a (S1.tr b)
    | ok w e2 =>
      rw [q] at h1
      have h1 : SGo X.K W (brS (isB (rs e2 w)) (loopS (s e2) (whGo t s n)) (.nx e2)) σ e F H D := h1
      cases z : isB (rs e2 w) with
      | none => rw [z] at h1; exact h1.elim
      | some b =>
        rw [z] at h1
        refine ⟨b, isB_some z, fun H2 F2 R2 S2 => ?_⟩
        cases b with
        | true =>
          have h2 : SGo X.K W (loopS (s e2) (whGo t s n)) σ e F H D := h1
          refine (if_pos rfl : (if true = true then _ else _) = _) ▸ ?_
          exact ⟨fun σ' H' => Lp X.K W σ e F H D (whGo t s n) σ' H', fun σ' H' w => ⟨n, Nat.lt_succ_self n, w⟩, F2, e2, R2, SGo.later (S1.tr S2) (SGo.imp h2.loopS (fun _ _ z => z) (fun _ _ z => z) (fun _ _ z => z) (fun _ _ z => z))⟩
        | false =>
          have h2 : SGo X.K W (.nx e2) σ e F H D := h1
          exact h2 σ1 H2 F2 R2 (S1.tr S2)
end
/-! ### sorted, of whole numbers -/
def insI (a : Int) : List Int → List Int
  | [] => [a]
  | b :: bs => if a ≤ b then a :: b :: bs else b :: insI a bs
def sortI : List Int → List Int
  | [] => []
  | a :: as => insI a (sortI as)
theorem insI_perm (a : Int) : ∀ bs, (insI a bs).Perm (a :: bs)
  | [] => .refl _
  | b :: bs => by
    unfold insI
    split
    · exact .refl _
    · exact ((insI_perm a bs).cons b).trans (List.Perm.swap a b bs)
theorem sortI_perm : ∀ as, (sortI as).Perm as
  | [] => .refl _
  | a :: as => (insI_perm a (sortI as)).trans ((sortI_perm as).cons a)
theorem insI_up (a : Int) : ∀ bs : List Int, bs.Pairwise (· ≤ ·) → (insI a bs).Pairwise (· ≤ ·)
  | [], _ => List.pairwise_singleton _ _
  | b :: bs, h => by
    obtain ⟨h1, h2⟩ := List.pairwise_cons.mp h
    unfold insI
    split
    · rename_i le
      exact List.pairwise_cons.mpr ⟨fun x hx => (List.mem_cons.mp hx).elim (fun z => by rw [z]; exact le) fun z => Int.le_trans le (h1 x z), h⟩
    · rename_i le
      refine List.pairwise_cons.mpr ⟨fun x hx => ?_, insI_up a bs h2⟩
      rcases List.mem_cons.mp ((insI_perm a bs).mem_iff.mp hx) with z | z
      · rw [z]; omega
      · exact h1 x z
theorem sortI_up : ∀ as : List Int, (sortI as).Pairwise (· ≤ ·)
  | [] => .nil
  | a :: as => insI_up a _ (sortI_up as)
/-- there is just one ascending order -/
theorem up_one : ∀ {xs ys : List Int}, xs.Pairwise (· ≤ ·) → ys.Pairwise (· ≤ ·) → xs.Perm ys → xs = ys
  | [], ys, _, _, p => by rw [List.nil_perm.mp p]
  | x :: xs, [], _, _, p => by cases List.perm_nil.mp p
  | x :: xs, y :: ys, hx, hy, p => by
    obtain ⟨a1, a2⟩ := List.pairwise_cons.mp hx
    obtain ⟨b1, b2⟩ := List.pairwise_cons.mp hy
    have e : x = y := by
      have m1 := p.mem_iff.mp (List.mem_cons_self (a := x) (l := xs))
      have m2 := p.mem_iff.mpr (List.mem_cons_self (a := y) (l := ys))
      rcases List.mem_cons.mp m1 with z | z
      · exact z
      · rcases List.mem_cons.mp m2 with w | w
        · exact w.symm
        · exact Int.le_antisymm (a1 y w) (b1 x z)
    subst e
    rw [up_one a2 b2 ((List.perm_cons x).mp p)]
def intsD : List PyData → Option (List Int)
  | [] => some []
  | .int i :: xs => (intsD xs).map (i :: ·)
  | _ => none
def opSortI : List PyData → Option Wv
  | [.list xs] => (intsD xs).map fun is => .own ((sortI is).map .int)
  | _ => none
theorem dpa_intsD {K : PySem.W.Frag} {F : Hp} : ∀ {vs : List V} {xs : List PyData} {is : List Int}, DpAll K F vs xs → intsD xs = some is → vs = is.map V.int
  | _, [], _, h, q => by
    cases h
    cases q
    rfl
  | _, x :: xs, is, h, q => by
    cases h with
    | cons d t =>
      cases x with
      | int i =>
        obtain ⟨js, e, rfl⟩ := Option.map_eq_some_iff.mp (show (intsD xs).map (i :: ·) = some is from q)
        rw [dpa_intsD t e, dp_int d]
        rfl
      | _ => cases q
theorem dpa_intL {K : PySem.W.Frag} {F : Hp} : ∀ is : List Int, DpAll K F (is.map V.int) (is.map PyData.int)
  | [] => .nil
  | i :: is => .cons (.int i) (dpa_intL is)
theorem hr_sortI {K : PySem.W.Frag} : OpL K opSortI (rSortedI K) := by
  intro F H vs xs w Q hx d q k
  match xs, q with
  | [.list ys], q =>
    obtain ⟨is, e, rfl⟩ := Option.map_eq_some_iff.mp (show (intsD ys).map (fun is => Wv.own ((sortI is).map .int)) = some w from q)
    obtain ⟨v, rfl, d1⟩ := dhs1 d
    obtain ⟨a, us, rfl, s, g⟩ := dh_list d1
    rw [dpa_intsD g e] at s
    refine ⟨a, is, rfl, s, fun ns p hp up hn => k _ _ ⟨p, ns.map V.int, rfl, hn, rfl, ?_⟩⟩
    rw [up_one up (sortI_up is) (hp.trans (sortI_perm is).symm)]
    exact dpa_intL _
end Vf
namespace Vf.Law
open PySem PySem.Spec L2
open PyProof.Rows hiding St
def top (i : Nat) : Stmt := PySem.Challenge.pw_sortclues_k05_rows_compared.main.body.getD i (.Pass ⟨0, 0, 0, 0⟩)
abbrev FnP (K : PySem.W.Frag) (x : Str) (st : Stmt) (fd : FuncData) : Prop := FunD K x x (defArgs st) (defBody st) (defScope st) [] [] (He.ga K x) fd
theorem bt_all : bootBuiltins "all" = some (.builtin "all") := by rfl
theorem bt_bool : bootBuiltins "bool" = some (.type "bool") := by rfl
theorem bt_int : bootBuiltins "int" = some (.type "int") := by rfl
theorem bt_isinstance : bootBuiltins "isinstance" = some (.builtin "isinstance") := by rfl
theorem bt_len : bootBuiltins "len" = some (.builtin "len") := by rfl
theorem bt_list : bootBuiltins "list" = some (.type "list") := by rfl
theorem bt_max : bootBuiltins "max" = some (.builtin "max") := by rfl
theorem bt_min : bootBuiltins "min" = some (.builtin "min") := by rfl
theorem bt_range : bootBuiltins "range" = some (.type "range") := by rfl
theorem bt_repr : bootBuiltins "repr" = some (.builtin "repr") := by rfl
theorem bt_set : bootBuiltins "set" = some (.type "set") := by rfl
theorem bt_tuple : bootBuiltins "tuple" = some (.type "tuple") := by rfl
def noD : PyData → Option Bool := fun _ => none
def dat_ORDERS : PyData := .tuple [.str "up first", .str "up last", .str "down first", .str "down last"]
/-- what the module's names stand for -/
structure Gs (K : PySem.W.Frag) (mg : Str → Option Value) : Prop where
  f_all : mg "all" = none
  f_bool : mg "bool" = none
  f_int : mg "int" = none
  f_isinstance : mg "isinstance" = none
  f_len : mg "len" = none
  f_list : mg "list" = none
  f_max : mg "max" = none
  f_min : mg "min" = none
  f_range : mg "range" = none
  f_repr : mg "repr" = none
  f_set : mg "set" = none
  f_tuple : mg "tuple" = none
  x_NoSchema : ExcK K mg "NoSchema"
  x_NoRow : ExcK K mg "NoRow"
  x_NoRule : ExcK K mg "NoRule"
  k_MOST_COLUMNS : ∃ t, mg "MOST_COLUMNS" = some (.int 6 t)
  k_ORDERS : ∃ a, mg "ORDERS" = some (.ref a) ∧ ∀ F, Dp K F (.ref a) dat_ORDERS
  d_is_schema : mg "is_schema" = some (.ref (He.ga K "is_schema"))
  d_is_column : mg "is_column" = some (.ref (He.ga K "is_column"))
  d_check_schema : mg "check_schema" = some (.ref (He.ga K "check_schema"))
  d_is_whole : mg "is_whole" = some (.ref (He.ga K "is_whole"))
  d_is_number_below : mg "is_number_below" = some (.ref (He.ga K "is_number_below"))
  d_is_value : mg "is_value" = some (.ref (He.ga K "is_value"))
  d_is_row : mg "is_row" = some (.ref (He.ga K "is_row"))
  d_check_row : mg "check_row" = some (.ref (He.ga K "check_row"))
  d_is_step : mg "is_step" = some (.ref (He.ga K "is_step"))
  d_is_flat : mg "is_flat" = some (.ref (He.ga K "is_flat"))
  d_is_tree : mg "is_tree" = some (.ref (He.ga K "is_tree"))
  d_is_tree_below : mg "is_tree_below" = some (.ref (He.ga K "is_tree_below"))
  d_has_branches_form : mg "has_branches_form" = some (.ref (He.ga K "has_branches_form"))
  d_is_rule : mg "is_rule" = some (.ref (He.ga K "is_rule"))
  d_check_rule : mg "check_rule" = some (.ref (He.ga K "check_rule"))
  d_compare : mg "compare" = some (.ref (He.ga K "compare"))
  d_rule_says : mg "rule_says" = some (.ref (He.ga K "rule_says"))
  d_flat_says : mg "flat_says" = some (.ref (He.ga K "flat_says"))
  d_tree_says : mg "tree_says" = some (.ref (He.ga K "tree_says"))
  d_tree_for : mg "tree_for" = some (.ref (He.ga K "tree_for"))
  d_order_says : mg "order_says" = some (.ref (He.ga K "order_says"))
  d__law_mixed : mg "_law_mixed" = some (.ref (He.ga K "_law_mixed"))
  d__law_pile : mg "_law_pile" = some (.ref (He.ga K "_law_pile"))
  d__law_take : mg "_law_take" = some (.ref (He.ga K "_law_take"))
  d__law_schema : mg "_law_schema" = some (.ref (He.ga K "_law_schema"))
  d__law_value : mg "_law_value" = some (.ref (He.ga K "_law_value"))
  d__law_row : mg "_law_row" = some (.ref (He.ga K "_law_row"))
  d__law_order_of : mg "_law_order_of" = some (.ref (He.ga K "_law_order_of"))
  d__law_flat : mg "_law_flat" = some (.ref (He.ga K "_law_flat"))
  d__law_tree : mg "_law_tree" = some (.ref (He.ga K "_law_tree"))
  d__law_puts : mg "_law_puts" = some (.ref (He.ga K "_law_puts"))
  d__law_compare : mg "_law_compare" = some (.ref (He.ga K "_law_compare"))
  d__law_near : mg "_law_near" = some (.ref (He.ga K "_law_near"))
  d__law_whole : mg "_law_whole" = some (.ref (He.ga K "_law_whole"))
  d__law_good : mg "_law_good" = some (.ref (He.ga K "_law_good"))
  d_law : mg "law" = some (.ref (He.ga K "law"))
def el_is_column_1 : DE :=
  dU2 opIn (dName 1) (dC dat_ORDERS)
def dn_is_column : DS :=
  dSeq (dIf (dOr (dNot (dIsi aTuple noX (dName 0))) (dNot (dChain opLe opLe (dC (.int 1)) (dUn opLen [dName 0]) (dUn opLen [dC dat_ORDERS])))) (dSeq (dRet (dC (.bool false)))
      (dNext)) (dNext))
    (dSeq (dIf (dNot (dUn opAll [dLc (dName 0) [1] (tgName 1) (dC (.bool true)) el_is_column_1])) (dSeq (dRet (dC (.bool false)))
      (dNext)) (dNext))
    (dSeq (dRet (dU2 opEq (dU1 opLenSet (dName 0)) (dUn opLen [dName 0])))
    (dNext)))
def fn_is_column : FD := fnD 2 dn_is_column
def dn_is_whole : DS :=
  dSeq (dRet (dAnd (dIsi aInt noX (dName 0)) (dNot (dIsi aBool noX (dName 0)))))
    (dNext)
def fn_is_whole : FD := fnD 1 dn_is_whole
def lp_tree_for_1 : DS :=
  dSeq (dIf (dU2 opEq (dName 2) (dName 1)) (dSeq (dRet (dName 3))
        (dNext)) (dNext))
      (dNext)
def dn_tree_for : DS :=
  dSeq (dFor (dU2 opIx (dName 0) (dC (.int 2))) (tgTup [2, 3]) (lp_tree_for_1))
    (dSeq (dRet (dU2 opIx (dName 0) (dC (.int 3))))
    (dNext))
def fn_tree_for : FD := fnD 4 dn_tree_for
def dn_order_says : DS :=
  dSeq (dIf (dOr (dIsN (dName 1)) (dIsN (dName 2))) (dSeq (dAsg 3 (dU2 opEq (dIsN (dName 1)) (dMt isStr opEnds (dName 0) [dC (.str "first")])))
      (dNext)) (dSeq (dAsg 3 (dU2 opEq (dU2 opLt (dName 1) (dName 2)) (dMt isStr opStarts (dName 0) [dC (.str "up")])))
      (dNext)))
    (dSeq (dRet (dIte (dName 3) (dU1 opNeg (dC (.int 1))) (dC (.int 1))))
    (dNext))
def fn_order_says : FD := fnD 4 dn_order_says
def dn__law_mixed : DS :=
  dSeq (dAsg 2 (dU2 opMod (dUn opInt [dU2 opAdd (dU2 opAdd (dMulA (dU2 opMod (dUn opInt [dName 0]) (dC (.int 2147483647))) (dC (.int 48271))) (dMulA (dName 1) (dC (.int 69621)))) (dC (.int 1048583))]) (dC (.int 2147483629))))
    (dSeq (dAsg 2 (dU2 opMod (dUn opInt [dMulA (dName 2) (dName 2)]) (dC (.int 2147483587))))
    (dSeq (dRet (dU2 opMod (dUn opInt [dMulA (dName 2) (dU2 opAdd (dName 2) (dC (.int 2)))]) (dC (.int 2147483579))))
    (dNext)))
def fn__law_mixed : FD := fnD 3 dn__law_mixed
def dn__law_take : DS :=
  dSeq (dAsg 2 (dU2 opMod (dUn opInt [dU2 opIx (dName 0) (dC (.int 0))]) (dName 1)))
    (dSeq (dHas 0 (dSetI 0 (dC (.int 0)) ((dU2 opDiv (dU2 opIx (dName 0) (dC (.int 0))) (dName 1)))))
    (dSeq (dRet (dName 2))
    (dNext)))
def fn__law_take : FD := fnD 3 dn__law_take
def dn__law_puts : DS :=
  dSeq (dIf (dOr (dIsN (dName 1)) (dIsN (dName 2))) (dSeq (dRet (dU2 opEq (dIsN (dName 1)) (dU2 opIn (dName 0) (dLst [dC (.str "up first"), dC (.str "down first")]))))
      (dNext)) (dNext))
    (dSeq (dRet (dU2 opEq (dU2 opLt (dName 1) (dName 2)) (dU2 opIn (dName 0) (dLst [dC (.str "up first"), dC (.str "up last")]))))
    (dNext))
def fn__law_puts : FD := fnD 3 dn__law_puts
def dn__law_whole : DS :=
  dSeq (dRet (dAnd (dIsi aInt noX (dName 0)) (dNot (dIsi aBool noX (dName 0)))))
    (dNext)
def fn__law_whole : FD := fnD 1 dn__law_whole
def el_is_schema_1 : DE :=
  dCall 1 fn_is_column [dEs (dName 1)]
def dn_is_schema : DS :=
  dSeq (dIf (dOr (dNot (dIsi aList noX (dName 0))) (dNot (dChain opLe opLe (dC (.int 1)) (dUn opLen [dName 0]) (dC (.int 6))))) (dSeq (dRet (dC (.bool false)))
      (dNext)) (dNext))
    (dSeq (dRet (dUn opAll [dLc (dName 0) [1] (tgName 1) (dC (.bool true)) el_is_schema_1]))
    (dNext))
def fn_is_schema : FD := fnD 2 dn_is_schema
def dn_is_number_below : DS :=
  dSeq (dRet (dAnd (dCall 1 fn_is_whole [dEs (dName 1)]) (dChain opLe opLt (dC (.int 0)) (dName 1) (dName 0))))
    (dNext)
def fn_is_number_below : FD := fnD 2 dn_is_number_below
def dn_is_value : DS :=
  dSeq (dRet (dOr (dIsN (dName 0)) (dCall 1 fn_is_whole [dEs (dName 0)])))
    (dNext)
def fn_is_value : FD := fnD 1 dn_is_value
def lp_flat_says_1 : DS :=
  dSeq (dIf (dU2 opNe (dU2 opIx (dName 1) (dName 3)) (dU2 opIx (dName 2) (dName 3))) (dSeq (dRet (dCall 3 fn_order_says [dEs (dName 4), dEs (dU2 opIx (dName 1) (dName 3)), dEs (dU2 opIx (dName 2) (dName 3))]))
        (dNext)) (dNext))
      (dNext)
def dn_flat_says : DS :=
  dSeq (dFor (dName 0) (tgTup [3, 4]) (lp_flat_says_1))
    (dSeq (dRet (dC (.int 0)))
    (dNext))
def fn_flat_says : FD := fnD 5 dn_flat_says
def dn_tree_says (f_rec : FD) : DS :=
  dSeq (dIf (dIsN (dName 0)) (dSeq (dRet (dC (.int 0)))
      (dNext)) (dNext))
    (dSeq (dAsg 3 (dU2 opIx (dName 0) (dC (.int 0))))
    (dSeq (dIf (dU2 opNe (dU2 opIx (dName 1) (dName 3)) (dU2 opIx (dName 2) (dName 3))) (dSeq (dRet (dCall 3 fn_order_says [dEs (dU2 opIx (dName 0) (dC (.int 1))), dEs (dU2 opIx (dName 1) (dName 3)), dEs (dU2 opIx (dName 2) (dName 3))]))
      (dNext)) (dNext))
    (dSeq (dRet (dCall 3 f_rec [dEs (dCall 2 fn_tree_for [dEs (dName 0), dEs (dU2 opIx (dName 1) (dName 3))]), dEs (dName 1), dEs (dName 2)]))
    (dNext))))
def fn_tree_says : Nat → FD
  | 0 => fun _ => .bad
  | m + 1 => fnD 4 (dn_tree_says (fn_tree_says m))
def lp_law_pile_1 : DS :=
  dSeq (dAsg 3 (dU2 opAdd (dMulA (dName 3) (dC (.int 2147483579))) (dCall 2 fn__law_mixed [dEs (dName 2), dEs (dU2 opAdd (dU2 opAdd (dMulA (dC (.int 7)) (dName 1)) (dMulA (dC (.int 100)) (dName 4))) (dMulA (dName 4) (dName 4)))])))
      (dNext)
def dn__law_pile : DS :=
  dSeq (dAsg 2 (dC (.int 0)))
    (dSeq (dIf (dU2 opLt (dName 1) (dUn opLen [dName 0])) (dSeq (dAsg 2 (dU2 opIx (dName 0) (dName 1)))
      (dNext)) (dNext))
    (dSeq (dIf (dU2 opGe (dName 2) (dU2 opPow (dC (.int 10)) (dC (.int 18)))) (dSeq (dRet (dLst [dEs (dU2 opMod (dUn opInt [dU2 opSub (dName 2) (dU2 opPow (dC (.int 10)) (dC (.int 18)))]) (dMulA (dMulA (dMulA (dU2 opPow (dC (.int 10)) (dC (.int 60))) (dU2 opPow (dC (.int 10)) (dC (.int 60)))) (dU2 opPow (dC (.int 10)) (dC (.int 60)))) (dU2 opPow (dC (.int 10)) (dC (.int 60)))))]))
      (dNext)) (dNext))
    (dSeq (dAsg 3 (dC (.int 0)))
    (dSeq (dForR [dC (.int 24)] (tgName 4) (lp_law_pile_1))
    (dSeq (dRet (dLst [dEs (dName 3)]))
    (dNext))))))
def fn__law_pile : FD := fnD 5 dn__law_pile
def lp_law_schema_1 : DS :=
  dSeq (dIf (dU2 opEq (dCallB 2 fn__law_take [dName 0, dC (.int 2)]) (dC (.int 1))) (dSeq (dDrop (dMut 4 opIns [dEs (dCallB 2 fn__law_take [dName 0, dEs (dU2 opAdd (dUn opLen [dName 4]) (dC (.int 1)))]), dEs (dName 5)]))
          (dNext)) (dNext))
        (dNext)
def lp_law_schema_2 : DS :=
  dSeq (dAsg 4 (dLst []))
      (dSeq (dFor (dName 1) (tgName 5) (lp_law_schema_1))
      (dSeq (dIf (dU2 opEq (dName 4) (dLst [])) (dSeq (dAsg 4 (dLst [dEs (dU2 opIx (dName 1) (dCallB 2 fn__law_take [dName 0, dC (.int 4)]))]))
        (dNext)) (dNext))
      (dSeq (dDrop (dMut 2 opApp [dUn opTuple [dName 4]]))
      (dNext))))
def dn__law_schema : DS :=
  dSeq (dAsg 1 (dLst [dC (.str "up first"), dC (.str "up last"), dC (.str "down first"), dC (.str "down last")]))
    (dSeq (dAsg 2 (dLst []))
    (dSeq (dForR [dU2 opIx (dLst [dC (.int 1), dC (.int 2), dC (.int 2), dC (.int 3), dC (.int 3), dC (.int 4), dC (.int 5), dC (.int 6)]) (dCallB 2 fn__law_take [dName 0, dC (.int 8)])] (tgName 3) (lp_law_schema_2))
    (dSeq (dRet (dName 2))
    (dNext))))
def fn__law_schema : FD := fnD 6 dn__law_schema
def dn__law_value : DS :=
  dSeq (dIf (dU2 opEq (dName 1) (dC (.int 0))) (dSeq (dRet (dU2 opIx (dLst [dC .none, dC (.int 1), dC (.int 2), dC (.int 1), dC (.int 2)]) (dCallB 2 fn__law_take [dName 0, dC (.int 5)])))
      (dNext)) (dNext))
    (dSeq (dAsg 2 (dLst [dC .none, dC (.int 0), dC (.int 1), dC (.int 2), dC (.int 3), dU1 opNeg (dC (.int 1)), dU1 opNeg (dC (.int 5)), dC (.int 10), dC (.int 1), dC (.int 2), dC (.int 0), dEs (dU2 opPow (dC (.int 10)) (dC (.int 20))), dEs (dU2 opSub (dU2 opPow (dC (.int 10)) (dC (.int 29))) (dC (.int 3))), dEs (dU2 opSub (dC (.int 0)) (dU2 opPow (dC (.int 10)) (dC (.int 28)))), dC (.int 68), dU1 opNeg (dC (.int 97))]))
    (dSeq (dRet (dU2 opIx (dName 2) (dCallB 2 fn__law_take [dName 0, dC (.int 16)])))
    (dNext)))
def fn__law_value : FD := fnD 3 dn__law_value
def lp_law_order_of_1 : DS :=
  dSeq (dDrop (dMut 2 opIns [dEs (dCallB 2 fn__law_take [dName 0, dEs (dU2 opAdd (dName 3) (dC (.int 1)))]), dEs (dName 3)]))
      (dNext)
def dn__law_order_of : DS :=
  dSeq (dAsg 2 (dLst []))
    (dSeq (dForR [dName 1] (tgName 3) (lp_law_order_of_1))
    (dSeq (dRet (dName 2))
    (dNext)))
def fn__law_order_of : FD := fnD 4 dn__law_order_of
def ts_law_tree_1 : DE :=
  dU2 opNotIn (dName 5) (dName 2)
def lp_law_tree_1 : DS :=
  dSeq (dAsg 9 (dU2 opIx (dLst [dC .none, dC (.int 1), dC (.int 2), dC (.int 0), dC (.int 3), dU1 opNeg (dC (.int 1)), dC (.int 9), dC (.int 10), dU1 opNeg (dC (.int 5)), dEs (dU2 opPow (dC (.int 10)) (dC (.int 20))), dEs (dU2 opSub (dC (.int 0)) (dU2 opPow (dC (.int 10)) (dC (.int 28))))]) (dCallB 2 fn__law_take [dName 0, dC (.int 11)])))
      (dSeq (dIf (dU2 opNotIn (dName 9) (dName 7)) (dSeq (dDrop (dMut 7 opApp [dEs (dName 9)]))
        (dNext)) (dNext))
      (dNext))
def el_law_tree_1 (f_rec : FD) : DE :=
  dTup [dEs (dName 9), dEs (dCallB 4 f_rec [dName 0, dEs (dName 1), dEs (dName 10), dEs (dU2 opSub (dName 3) (dC (.int 1)))])]
def dn__law_tree (f_rec : FD) : DS :=
  dSeq (dAsg 4 (dLcR (dUn opLen [dName 1]) [5] (tgName 5) ts_law_tree_1 (dName 5)))
    (dSeq (dIf (dOr (dU2 opEq (dName 4) (dLst [])) (dOr (dU2 opEq (dName 3) (dC (.int 0))) (dU2 opEq (dCallB 2 fn__law_take [dName 0, dC (.int 6)]) (dC (.int 0))))) (dSeq (dRet (dC .none))
      (dNext)) (dNext))
    (dSeq (dAsg 5 (dU2 opIx (dName 4) (dCallB 2 fn__law_take [dName 0, dUn opLen [dName 4]])))
    (dSeq (dAsg 6 (dU2 opIx (dU2 opIx (dName 1) (dName 5)) (dCallB 2 fn__law_take [dName 0, dUn opLen [dU2 opIx (dName 1) (dName 5)]])))
    (dSeq (dAsg 7 (dLst []))
    (dSeq (dForR [dCallB 2 fn__law_take [dName 0, dC (.int 4)]] (tgName 8) (lp_law_tree_1))
    (dSeq (dAsg 10 (dU2 opAdd (dName 2) (dLst [dEs (dName 5)])))
    (dSeq (dAsg 11 (dLc (dName 7) [9] (tgName 9) (dC (.bool true)) ((el_law_tree_1 f_rec))))
    (dSeq (dRet (dTup [dEs (dName 5), dEs (dName 6), dEs (dName 11), dEs (dCallB 4 f_rec [dName 0, dEs (dName 1), dEs (dName 10), dEs (dU2 opSub (dName 3) (dC (.int 1)))])]))
    (dNext)))))))))
def fn__law_tree : Nat → FD
  | 0 => fun _ => .bad
  | m + 1 => fnD 12 (dn__law_tree (fn__law_tree m))
def lp_law_compare_1 : DS :=
  dSeq (dIf (dU2 opNe (dU2 opIx (dName 1) (dName 3)) (dU2 opIx (dName 2) (dName 3))) (dSeq (dRet (dU2 opIx (dLst [dC (.int 1), dU1 opNeg (dC (.int 1))]) (dUn opInt [dCall 3 fn__law_puts [dEs (dName 4), dEs (dU2 opIx (dName 1) (dName 3)), dEs (dU2 opIx (dName 2) (dName 3))]])))
          (dNext)) (dNext))
        (dNext)
def lp_law_compare_2 (f_rec : FD) : DS :=
  dSeq (dIf (dU2 opEq (dName 7) (dU2 opIx (dName 1) (dName 3))) (dSeq (dRet (dCall 3 f_rec [dEs (dName 8), dEs (dName 1), dEs (dName 2)]))
        (dNext)) (dNext))
      (dNext)
def dn__law_compare (f_rec : FD) : DS :=
  dSeq (dIf (dIsi aList noX (dName 0)) (dSeq (dFor (dName 0) (tgTup [3, 4]) (lp_law_compare_1))
      (dSeq (dRet (dC (.int 0)))
      (dNext))) (dNext))
    (dSeq (dIf (dIsN (dName 0)) (dSeq (dRet (dC (.int 0)))
      (dNext)) (dNext))
    (dSeq (dAsgT (tgTup [3, 4, 5, 6]) (dName 0))
    (dSeq (dIf (dU2 opNe (dU2 opIx (dName 1) (dName 3)) (dU2 opIx (dName 2) (dName 3))) (dSeq (dRet (dU2 opIx (dLst [dC (.int 1), dU1 opNeg (dC (.int 1))]) (dUn opInt [dCall 3 fn__law_puts [dEs (dName 4), dEs (dU2 opIx (dName 1) (dName 3)), dEs (dU2 opIx (dName 2) (dName 3))]])))
      (dNext)) (dNext))
    (dSeq (dFor (dName 5) (tgTup [7, 8]) ((lp_law_compare_2 f_rec)))
    (dSeq (dRet (dCall 3 f_rec [dEs (dName 6), dEs (dName 1), dEs (dName 2)]))
    (dNext))))))
def fn__law_compare : Nat → FD
  | 0 => fun _ => .bad
  | m + 1 => fnD 9 (dn__law_compare (fn__law_compare m))
def dn_check_schema : DS :=
  dSeq (dIf (dNot (dCall 1 fn_is_schema [dEs (dName 0)])) (dSeq (dRaise "NoSchema")
      (dNext)) (dNext))
    (dNext)
def fn_check_schema : FD := fnD 1 dn_check_schema
def el_has_branches_form_1 : DE :=
  dAnd (dIsi aTuple noX (dName 1)) (dAnd (dU2 opEq (dUn opLen [dName 1]) (dC (.int 2))) (dCall 1 fn_is_value [dEs (dU2 opIx (dName 1) (dC (.int 0)))]))
def el_has_branches_form_2 : DE :=
  dU2 opIx (dName 1) (dC (.int 0))
def dn_has_branches_form : DS :=
  dSeq (dIf (dNot (dIsi aList noX (dName 0))) (dSeq (dRet (dC (.bool false)))
      (dNext)) (dNext))
    (dSeq (dIf (dNot (dUn opAll [dLc (dName 0) [1] (tgName 1) (dC (.bool true)) el_has_branches_form_1])) (dSeq (dRet (dC (.bool false)))
      (dNext)) (dNext))
    (dSeq (dRet (dU2 opEq (dU1 opLenKeys (dLc (dName 0) [1] (tgName 1) (dC (.bool true)) el_has_branches_form_2)) (dUn opLen [dName 0])))
    (dNext)))
def fn_has_branches_form : FD := fnD 2 dn_has_branches_form
def el_law_row_1 : DE :=
  dCallB 2 fn__law_value [dName 0, dEs (dName 2)]
def dn__law_row : DS :=
  dSeq (dRet (dUn opTuple [dLc (dName 1) [3] (tgName 3) (dC (.bool true)) el_law_row_1]))
    (dNext)
def fn__law_row : FD := fnD 4 dn__law_row
def el_law_flat_1 : DE :=
  dTup [dEs (dName 3), dEs (dU2 opIx (dU2 opIx (dName 1) (dName 3)) (dCallB 2 fn__law_take [dName 0, dUn opLen [dU2 opIx (dName 1) (dName 3)]]))]
def dn__law_flat : DS :=
  dSeq (dAsg 2 (dSl (dCallB 2 fn__law_order_of [dName 0, dUn opLen [dName 1]]) none (some (dCallB 2 fn__law_take [dName 0, dEs (dU2 opAdd (dUn opLen [dName 1]) (dC (.int 1)))]))))
    (dSeq (dRet (dLc (dName 2) [3] (tgName 3) (dC (.bool true)) el_law_flat_1))
    (dNext))
def fn__law_flat : FD := fnD 4 dn__law_flat
def lp_law_near_1 : DS :=
  dSeq (dIf (dU2 opEq (dCallB 2 fn__law_take [dName 0, dC (.int 3)]) (dC (.int 0))) (dSeq (dHas 3 (dSetI 3 (dName 4) ((dCallB 2 fn__law_value [dName 0, dEs (dName 2)]))))
        (dNext)) (dNext))
      (dNext)
def dn__law_near : DS :=
  dSeq (dAsg 3 (dUn opList [dName 1]))
    (dSeq (dForR [dUn opLen [dName 1]] (tgName 4) (lp_law_near_1))
    (dSeq (dRet (dUn opTuple [dName 3]))
    (dNext)))
def fn__law_near : FD := fnD 5 dn__law_near
def el_is_row_1 : DE :=
  dCall 1 fn_is_value [dEs (dName 2)]
def dn_is_row : DS :=
  dSeq (dDrop (dCall 1 fn_check_schema [dEs (dName 0)]))
    (dSeq (dIf (dOr (dNot (dIsi aTuple noX (dName 1))) (dU2 opNe (dUn opLen [dName 1]) (dUn opLen [dName 0]))) (dSeq (dRet (dC (.bool false)))
      (dNext)) (dNext))
    (dSeq (dRet (dUn opAll [dLc (dName 1) [2] (tgName 2) (dC (.bool true)) el_is_row_1]))
    (dNext)))
def fn_is_row : FD := fnD 3 dn_is_row
def dn_is_step : DS :=
  dSeq (dDrop (dCall 1 fn_check_schema [dEs (dName 0)]))
    (dSeq (dIf (dOr (dNot (dIsi aTuple noX (dName 1))) (dU2 opNe (dUn opLen [dName 1]) (dC (.int 2)))) (dSeq (dRet (dC (.bool false)))
      (dNext)) (dNext))
    (dSeq (dAsgT (tgTup [2, 3]) (dName 1))
    (dSeq (dIf (dNot (dCall 2 fn_is_number_below [dUn opLen [dName 0], dEs (dName 2)])) (dSeq (dRet (dC (.bool false)))
      (dNext)) (dNext))
    (dSeq (dRet (dU2 opIn (dName 3) (dU2 opIx (dName 0) (dName 2))))
    (dNext)))))
def fn_is_step : FD := fnD 4 dn_is_step
def dn_check_row : DS :=
  dSeq (dIf (dNot (dCall 2 fn_is_row [dEs (dName 0), dEs (dName 1)])) (dSeq (dRaise "NoRow")
      (dNext)) (dNext))
    (dNext)
def fn_check_row : FD := fnD 2 dn_check_row
def el_is_flat_1 : DE :=
  dCall 2 fn_is_step [dEs (dName 0), dEs (dName 2)]
def el_is_flat_2 : DE :=
  dU2 opIx (dName 2) (dC (.int 0))
def dn_is_flat : DS :=
  dSeq (dDrop (dCall 1 fn_check_schema [dEs (dName 0)]))
    (dSeq (dIf (dNot (dIsi aList noX (dName 1))) (dSeq (dRet (dC (.bool false)))
      (dNext)) (dNext))
    (dSeq (dIf (dNot (dUn opAll [dLc (dName 1) [2] (tgName 2) (dC (.bool true)) el_is_flat_1])) (dSeq (dRet (dC (.bool false)))
      (dNext)) (dNext))
    (dSeq (dRet (dU2 opEq (dU1 opLenKeys (dLc (dName 1) [2] (tgName 2) (dC (.bool true)) el_is_flat_2)) (dUn opLen [dName 1])))
    (dNext))))
def fn_is_flat : FD := fnD 3 dn_is_flat
def el_is_tree_below_1 : DE :=
  dU2 opIx (dName 9) (dC (.int 1))
def el_is_tree_below_2 (f_rec : FD) : DE :=
  dCall 3 f_rec [dEs (dName 0), dEs (dName 10), dEs (dName 7)]
def dn_is_tree_below (f_rec : FD) : DS :=
  dSeq (dIf (dIsN (dName 1)) (dSeq (dRet (dC (.bool true)))
      (dNext)) (dNext))
    (dSeq (dIf (dOr (dNot (dIsi aTuple noX (dName 1))) (dU2 opNe (dUn opLen [dName 1]) (dC (.int 4)))) (dSeq (dRet (dC (.bool false)))
      (dNext)) (dNext))
    (dSeq (dAsgT (tgTup [3, 4, 5, 6]) (dName 1))
    (dSeq (dIf (dOr (dNot (dCall 2 fn_is_step [dEs (dName 0), dTup [dEs (dName 3), dEs (dName 4)]])) (dU2 opIn (dName 3) (dName 2))) (dSeq (dRet (dC (.bool false)))
      (dNext)) (dNext))
    (dSeq (dIf (dNot (dCall 1 fn_has_branches_form [dEs (dName 5)])) (dSeq (dRet (dC (.bool false)))
      (dNext)) (dNext))
    (dSeq (dAsg 7 (dU2 opAdd (dName 2) (dTup [dEs (dName 3)])))
    (dSeq (dAsg 8 (dU2 opAdd (dLc (dName 5) [9] (tgName 9) (dC (.bool true)) el_is_tree_below_1) (dLst [dEs (dName 6)])))
    (dSeq (dRet (dUn opAll [dLc (dName 8) [10] (tgName 10) (dC (.bool true)) ((el_is_tree_below_2 f_rec))]))
    (dNext))))))))
def fn_is_tree_below : Nat → FD
  | 0 => fun _ => .bad
  | m + 1 => fnD 11 (dn_is_tree_below (fn_is_tree_below m))
def dn_rule_says : DS :=
  dSeq (dIf (dIsi aList noX (dName 0)) (dSeq (dRet (dCall 3 fn_flat_says [dEs (dName 0), dEs (dName 1), dEs (dName 2)]))
      (dNext)) (dNext))
    (dSeq (dRet (dCall 3 (fn_tree_says 8) [dEs (dName 0), dEs (dName 1), dEs (dName 2)]))
    (dNext))
def fn_rule_says : FD := fnD 3 dn_rule_says
def dn_is_tree : DS :=
  dSeq (dDrop (dCall 1 fn_check_schema [dEs (dName 0)]))
    (dSeq (dRet (dCall 3 (fn_is_tree_below 8) [dEs (dName 0), dEs (dName 1), dTup []]))
    (dNext))
def fn_is_tree : FD := fnD 2 dn_is_tree
def dn_is_rule : DS :=
  dSeq (dRet (dOr (dCall 2 fn_is_flat [dEs (dName 0), dEs (dName 1)]) (dCall 2 fn_is_tree [dEs (dName 0), dEs (dName 1)])))
    (dNext)
def fn_is_rule : FD := fnD 2 dn_is_rule
def dn_check_rule : DS :=
  dSeq (dIf (dNot (dCall 2 fn_is_rule [dEs (dName 0), dEs (dName 1)])) (dSeq (dRaise "NoRule")
      (dNext)) (dNext))
    (dNext)
def fn_check_rule : FD := fnD 2 dn_check_rule
def dn_compare : DS :=
  dSeq (dDrop (dCall 2 fn_check_rule [dEs (dName 0), dEs (dName 1)]))
    (dSeq (dDrop (dCall 2 fn_check_row [dEs (dName 0), dEs (dName 2)]))
    (dSeq (dDrop (dCall 2 fn_check_row [dEs (dName 0), dEs (dName 3)]))
    (dSeq (dRet (dCall 3 fn_rule_says [dEs (dName 1), dEs (dName 2), dEs (dName 3)]))
    (dNext))))
def fn_compare : FD := fnD 4 dn_compare
def dn__law_good : DS :=
  dSeq (dAsg 4 (dUn opRepr [dLst [dEs (dName 0), dEs (dName 1), dEs (dName 2), dEs (dName 3)]]))
    (dSeq (dAsg 5 (dCall 4 fn_compare [dEs (dName 0), dEs (dName 1), dEs (dName 2), dEs (dName 3)]))
    (dSeq (dIf (dOr (dNot (dCall 1 fn__law_whole [dEs (dName 5)])) (dOr (dU2 opNe (dName 5) (dCall 3 (fn__law_compare 8) [dEs (dName 1), dEs (dName 2), dEs (dName 3)])) (dU2 opNe (dUn opRepr [dLst [dEs (dName 0), dEs (dName 1), dEs (dName 2), dEs (dName 3)]]) (dName 4)))) (dSeq (dRet (dC (.bool false)))
      (dNext)) (dNext))
    (dSeq (dRet (dAnd (dU2 opEq (dCall 4 fn_compare [dEs (dName 0), dEs (dName 1), dEs (dName 3), dEs (dName 2)]) (dU2 opSub (dC (.int 0)) (dName 5))) (dU2 opEq (dCall 4 fn_compare [dEs (dName 0), dEs (dName 1), dEs (dName 2), dEs (dName 2)]) (dC (.int 0)))))
    (dNext))))
def fn__law_good : FD := fnD 6 dn__law_good
def lp_law_1 : DS :=
  dSeq (dIf (dNot (dCall 4 fn__law_good [dEs (dName 3), dEs (dName 9), dEs (dName 7), dEs (dName 8)])) (dSeq (dRet (dC (.bool false)))
            (dNext)) (dNext))
          (dNext)
def lp_law_2 : DS :=
  dSeq (dAsg 6 (dCallB 2 fn__law_take [dName 2, dC (.int 2)]))
        (dSeq (dAsg 7 (dCallB 3 fn__law_row [dName 2, dEs (dName 3), dEs (dName 6)]))
        (dSeq (dAsg 8 (dCallB 3 fn__law_near [dName 2, dEs (dName 7), dEs (dName 6)]))
        (dSeq (dFor (dName 4) (tgName 9) (lp_law_1))
        (dNext))))
def lp_law_3 : DS :=
  dSeq (dAsg 2 (dCall 2 fn__law_pile [dEs (dName 0), dEs (dName 1)]))
      (dSeq (dAsg 3 (dCallB 1 fn__law_schema [dName 2]))
      (dSeq (dAsg 4 (dLst [dEs (dCallB 2 fn__law_flat [dName 2, dEs (dName 3)]), dEs (dCallB 4 (fn__law_tree 8) [dName 2, dEs (dName 3), dEs (dLst []), dC (.int 4)]), dC .none, dEs (dLst [])]))
      (dSeq (dForR [dC (.int 8)] (tgName 5) (lp_law_2))
      (dNext))))
def dn_law : DS :=
  dSeq (dForR [dUn opMax [dC (.int 2), dUn opMin [dUn opLen [dName 0], dC (.int 8)]]] (tgName 1) (lp_law_3))
    (dSeq (dRet (dC (.bool true)))
    (dNext))
def fn_law : FD := fnD 10 dn_law
section
variable {P : Program} {w : World} {K : PySem.W.Frag} {mg : Str → Option Value} {base : Heap}
abbrev st_is_column : Stmt := top 9
theorem sc_is_column : FnScope ["thing", "order"] ["thing"] (defScope st_is_column) := ⟨rfl, rfl, rfl, by decide +kernel, rfl, by decide +kernel, by decide +kernel⟩
theorem ok_is_column (g : Gs K mg) {fd : FuncData} (F : FnP K "is_column" st_is_column fd)  : FnG P w K mg base 1 (He.ga K "is_column") fd ["thing"] (spD K 1 fn_is_column) := by
  refine fn_d (k := 0) F sc_is_column fun cdv A outer s0 H E hr hgd => ?_
  have tk : Takes (cxOf (L2.CX P w) P w K mg base ["thing", "order"] "is_column" (defScope st_is_column) (He.ga K "is_column") cdv A outer s0 H E) (WX0 E) := takes_of rfl rfl rfl rfl
  have hp : PassesOwn (model P w) (cxOf (L2.CX P w) P w K mg base ["thing", "order"] "is_column" (defScope st_is_column) (He.ga K "is_column") cdv A outer s0 H E).A (cxOf (L2.CX P w) P w K mg base ["thing", "order"] "is_column" (defScope st_is_column) (He.ga K "is_column") cdv A outer s0 H E).env (cxOf (L2.CX P w) P w K mg base ["thing", "order"] "is_column" (defScope st_is_column) (He.ga K "is_column") cdv A outer s0 H E).xe := passes_of rfl
  have nd : List.Nodup (α := Str) ["thing", "order"] := sc_is_column.nd
  have hu : (A.deeper (envOfC "is_column" (defScope st_is_column) s0.heap.objs.size (He.ga K "is_column") cdv)).units + 65 < cLine := by have := hr.un; omega
  have hu4 : (A.deeper (envOfC "is_column" (defScope st_is_column) s0.heap.objs.size (He.ga K "is_column") cdv)).units + 64 < cLine := by omega
  exact pss_d_cons
    (ps_d_if ((pw_d_or (pt_d_not (pt_d_val (pd_isi (by rfl) g.f_isinstance (.ty _) ck_tuple (pd_name (pv 0)) (pe_bltn (by rfl) g.f_tuple bt_tuple rfl)))) (pw_d_or1 (pt_d_not (pt_d_chain op_le hr_cmpI op_le hr_cmpI (pd_c pe_int (fun _ => .int _)) (pd_callB cr_lenA hr_len (by rfl) g.f_len bt_len (pd_cons (pd_name (pv 0)) pd_nil)) (pd_callB cr_lenA hr_len (by rfl) g.f_len bt_len (pd_cons (pd_gdat (by rfl) g.k_ORDERS) pd_nil)))))).pt) (pss_d_cons
      (ps_d_ret (pd_c pe_bl (fun _ => .bl _)))
      (pss_d_nil)) (pss_d_nil))
    (pss_d_cons
    (ps_d_if (pt_d_not (pt_d_val (pd_callB (cr_all (by rfl)) hr_all (by rfl) g.f_all bt_all (pd_cons (pd_lc (by rfl) nd (pd_es (pd_name (pv 0))) (blkOk_by (N := ["thing", "order"]) (sc := defScope st_is_column) (own := [("order", 1)]) (by decide +kernel)) (fun _ _ _ _ _ => pg_name (i := 1) nd rfl (by first | exact Or.inl rfl | exact Or.inr rfl)) tg_name (by rfl) (by decide) (fun _ _ _ _ _ => pts_nil) tt_yes (fun _ _ _ _ _ => pd_es (pd_cmp (op_inA hu) hr_in (pd_name (pv 1)) (pd_gdat (by rfl) g.k_ORDERS) (by first | rfl | exact nomark _)))) pd_nil)))) (pss_d_cons
      (ps_d_ret (pd_c pe_bl (fun _ => .bl _)))
      (pss_d_nil)) (pss_d_nil))
    (pss_d_cons
    (ps_d_ret (pd_cmp (op_eqA hu4) hr_eq (pd_lenSet (by rfl) (by rfl) g.f_len (by rfl) g.f_set (pd_name (pv 0))) (pd_callB cr_lenA hr_len (by rfl) g.f_len bt_len (pd_cons (pd_name (pv 0)) pd_nil)) (by first | rfl | exact nomark _)))
    (pss_d_nil)))
theorem has_is_column (g : Gs K mg) (F : ∃ fd, FnP K "is_column" st_is_column fd)  : Has P w K mg base 1 "is_column" ["thing"] fn_is_column := by
  obtain ⟨fd, F⟩ := F
  exact ⟨fd, ok_is_column g F , F.bindsN fun _ _ _ _ _ _ us hl => (match us, hl with | [_], _ => rfl), F.kp, g.d_is_column⟩
abbrev st_is_whole : Stmt := top 11
theorem sc_is_whole : FnScope ["thing"] ["thing"] (defScope st_is_whole) := ⟨rfl, rfl, rfl, by decide +kernel, rfl, by decide +kernel, by decide +kernel⟩
theorem ok_is_whole (g : Gs K mg) {fd : FuncData} (F : FnP K "is_whole" st_is_whole fd)  : FnG P w K mg base 1 (He.ga K "is_whole") fd ["thing"] (spD K 1 fn_is_whole) := by
  refine fn_d (k := 0) F sc_is_whole fun cdv A outer s0 H E hr hgd => ?_
  have tk : Takes (cxOf (L2.CX P w) P w K mg base ["thing"] "is_whole" (defScope st_is_whole) (He.ga K "is_whole") cdv A outer s0 H E) (WX0 E) := takes_of rfl rfl rfl rfl
  have hp : PassesOwn (model P w) (cxOf (L2.CX P w) P w K mg base ["thing"] "is_whole" (defScope st_is_whole) (He.ga K "is_whole") cdv A outer s0 H E).A (cxOf (L2.CX P w) P w K mg base ["thing"] "is_whole" (defScope st_is_whole) (He.ga K "is_whole") cdv A outer s0 H E).env (cxOf (L2.CX P w) P w K mg base ["thing"] "is_whole" (defScope st_is_whole) (He.ga K "is_whole") cdv A outer s0 H E).xe := passes_of rfl
  have nd : List.Nodup (α := Str) ["thing"] := sc_is_whole.nd
  have hu : (A.deeper (envOfC "is_whole" (defScope st_is_whole) s0.heap.objs.size (He.ga K "is_whole") cdv)).units + 65 < cLine := by have := hr.un; omega
  have hu4 : (A.deeper (envOfC "is_whole" (defScope st_is_whole) s0.heap.objs.size (He.ga K "is_whole") cdv)).units + 64 < cLine := by omega
  exact pss_d_cons
    (ps_d_ret (pd_and (pd_isi (by rfl) g.f_isinstance (.ty _) ck_int (pd_name (pv 0)) (pe_bltn (by rfl) g.f_int bt_int rfl)) (pd_one (pd_not (pd_isi (by rfl) g.f_isinstance (.ty _) ck_bool (pd_name (pv 0)) (pe_bltn (by rfl) g.f_bool bt_bool rfl))))))
    (pss_d_nil)
theorem has_is_whole (g : Gs K mg) (F : ∃ fd, FnP K "is_whole" st_is_whole fd)  : Has P w K mg base 1 "is_whole" ["thing"] fn_is_whole := by
  obtain ⟨fd, F⟩ := F
  exact ⟨fd, ok_is_whole g F , F.bindsN fun _ _ _ _ _ _ us hl => (match us, hl with | [_], _ => rfl), F.kp, g.d_is_whole⟩
abbrev st_tree_for : Stmt := top 28
theorem sc_tree_for : FnScope ["tree", "value", "at", "below"] ["tree", "value"] (defScope st_tree_for) := ⟨rfl, rfl, rfl, by decide +kernel, rfl, by decide +kernel, by decide +kernel⟩
theorem ok_tree_for (g : Gs K mg) {fd : FuncData} (F : FnP K "tree_for" st_tree_for fd)  : FnG P w K mg base 1 (He.ga K "tree_for") fd ["tree", "value"] (spD K 2 fn_tree_for) := by
  refine fn_d (k := 0) F sc_tree_for fun cdv A outer s0 H E hr hgd => ?_
  have tk : Takes (cxOf (L2.CX P w) P w K mg base ["tree", "value", "at", "below"] "tree_for" (defScope st_tree_for) (He.ga K "tree_for") cdv A outer s0 H E) (WX0 E) := takes_of rfl rfl rfl rfl
  have hp : PassesOwn (model P w) (cxOf (L2.CX P w) P w K mg base ["tree", "value", "at", "below"] "tree_for" (defScope st_tree_for) (He.ga K "tree_for") cdv A outer s0 H E).A (cxOf (L2.CX P w) P w K mg base ["tree", "value", "at", "below"] "tree_for" (defScope st_tree_for) (He.ga K "tree_for") cdv A outer s0 H E).env (cxOf (L2.CX P w) P w K mg base ["tree", "value", "at", "below"] "tree_for" (defScope st_tree_for) (He.ga K "tree_for") cdv A outer s0 H E).xe := passes_of rfl
  have nd : List.Nodup (α := Str) ["tree", "value", "at", "below"] := sc_tree_for.nd
  have hu : (A.deeper (envOfC "tree_for" (defScope st_tree_for) s0.heap.objs.size (He.ga K "tree_for") cdv)).units + 65 < cLine := by have := hr.un; omega
  have hu4 : (A.deeper (envOfC "tree_for" (defScope st_tree_for) s0.heap.objs.size (He.ga K "tree_for") cdv)).units + 64 < cLine := by omega
  exact pss_d_cons
    (ps_d_for hp rfl (pd_es (pd_ix ix_seq hr_ix (pd_name (pv 0)) (pd_c pe_int (fun _ => .int _)) (fun _ _ => rfl))) (pg_tup rfl (pgs_cons (pg_name (i := 2) nd rfl (by first | exact Or.inl rfl | exact Or.inr rfl)) (pgs_cons (pg_name (i := 3) nd rfl (by first | exact Or.inl rfl | exact Or.inr rfl)) (pgs_nil)))) (tg_tup (js := [2, 3]) rfl) (pss_d_cons
      (ps_d_if (pt_d_cmp (op_eqA hu4) hr_eq (pd_name (pv 2)) (pd_name (pv 1)) (by first | rfl | exact nomark _)) (pss_d_cons
        (ps_d_ret (pd_name (pv 3)))
        (pss_d_nil)) (pss_d_nil))
      (pss_d_nil)))
    (pss_d_cons
    (ps_d_ret (pd_ix ix_seq hr_ix (pd_name (pv 0)) (pd_c pe_int (fun _ => .int _)) (fun _ _ => rfl)))
    (pss_d_nil))
theorem has_tree_for (g : Gs K mg) (F : ∃ fd, FnP K "tree_for" st_tree_for fd)  : Has P w K mg base 1 "tree_for" ["tree", "value"] fn_tree_for := by
  obtain ⟨fd, F⟩ := F
  exact ⟨fd, ok_tree_for g F , F.bindsN fun _ _ _ _ _ _ us hl => (match us, hl with | [_, _], _ => rfl), F.kp, g.d_tree_for⟩
abbrev st_order_says : Stmt := top 29
theorem sc_order_says : FnScope ["order", "one", "other", "is_ahead"] ["order", "one", "other"] (defScope st_order_says) := ⟨rfl, rfl, rfl, by decide +kernel, rfl, by decide +kernel, by decide +kernel⟩
theorem ok_order_says (g : Gs K mg) {fd : FuncData} (F : FnP K "order_says" st_order_says fd)  : FnG P w K mg base 1 (He.ga K "order_says") fd ["order", "one", "other"] (spD K 3 fn_order_says) := by
  refine fn_d (k := 0) F sc_order_says fun cdv A outer s0 H E hr hgd => ?_
  have tk : Takes (cxOf (L2.CX P w) P w K mg base ["order", "one", "other", "is_ahead"] "order_says" (defScope st_order_says) (He.ga K "order_says") cdv A outer s0 H E) (WX0 E) := takes_of rfl rfl rfl rfl
  have hp : PassesOwn (model P w) (cxOf (L2.CX P w) P w K mg base ["order", "one", "other", "is_ahead"] "order_says" (defScope st_order_says) (He.ga K "order_says") cdv A outer s0 H E).A (cxOf (L2.CX P w) P w K mg base ["order", "one", "other", "is_ahead"] "order_says" (defScope st_order_says) (He.ga K "order_says") cdv A outer s0 H E).env (cxOf (L2.CX P w) P w K mg base ["order", "one", "other", "is_ahead"] "order_says" (defScope st_order_says) (He.ga K "order_says") cdv A outer s0 H E).xe := passes_of rfl
  have nd : List.Nodup (α := Str) ["order", "one", "other", "is_ahead"] := sc_order_says.nd
  have hu : (A.deeper (envOfC "order_says" (defScope st_order_says) s0.heap.objs.size (He.ga K "order_says") cdv)).units + 65 < cLine := by have := hr.un; omega
  have hu4 : (A.deeper (envOfC "order_says" (defScope st_order_says) s0.heap.objs.size (He.ga K "order_says") cdv)).units + 64 < cLine := by omega
  exact pss_d_cons
    (ps_d_if ((pw_d_or (pt_d_isN (pd_name (pv 1))) (pw_d_or1 (pt_d_isN (pd_name (pv 2))))).pt) (pss_d_cons
      (ps_d_set (ps_set (i := 3) nd rfl (by first | exact Or.inl rfl | exact Or.inr rfl) (pd_cmp (op_eqA hu4) hr_eq (pd_isN (pd_name (pv 1))) (pd_mt PySem.F.plainAttrs_str PySem.F.slot_str_endswith PySem.F.type_str_endswith mt_endswith ty_str hr_ends (pd_name (pv 0)) (pd_cons (pd_c pe_str (fun _ => .str _)) pd_nil)) (by first | rfl | exact nomark _))))
      (pss_d_nil)) (pss_d_cons
      (ps_d_set (ps_set (i := 3) nd rfl (by first | exact Or.inl rfl | exact Or.inr rfl) (pd_cmp (op_eqA hu4) hr_eq (pd_cmp op_lt hr_cmpI (pd_name (pv 1)) (pd_name (pv 2)) (by first | rfl | exact nomark _)) (pd_mt PySem.F.plainAttrs_str PySem.F.slot_str_startswith PySem.F.type_str_startswith mt_startswith ty_str hr_starts (pd_name (pv 0)) (pd_cons (pd_c pe_str (fun _ => .str _)) pd_nil)) (by first | rfl | exact nomark _))))
      (pss_d_nil)))
    (pss_d_cons
    (ps_d_ret (pd_if (pt_d_val (pd_name (pv 3))) (pd_un un_neg hr_neg (pd_c pe_int (fun _ => .int _))) (pd_c pe_int (fun _ => .int _))))
    (pss_d_nil))
theorem has_order_says (g : Gs K mg) (F : ∃ fd, FnP K "order_says" st_order_says fd)  : Has P w K mg base 1 "order_says" ["order", "one", "other"] fn_order_says := by
  obtain ⟨fd, F⟩ := F
  exact ⟨fd, ok_order_says g F , F.bindsN fun _ _ _ _ _ _ us hl => (match us, hl with | [_, _, _], _ => rfl), F.kp, g.d_order_says⟩
abbrev st__law_mixed : Stmt := top 31
theorem sc__law_mixed : FnScope ["_law_cell", "_law_k", "_law_number"] ["_law_cell", "_law_k"] (defScope st__law_mixed) := ⟨rfl, rfl, rfl, by decide +kernel, rfl, by decide +kernel, by decide +kernel⟩
theorem ok__law_mixed (g : Gs K mg) {fd : FuncData} (F : FnP K "_law_mixed" st__law_mixed fd)  : FnG P w K mg base 1 (He.ga K "_law_mixed") fd ["_law_cell", "_law_k"] (spD K 2 fn__law_mixed) := by
  refine fn_d (k := 0) F sc__law_mixed fun cdv A outer s0 H E hr hgd => ?_
  have tk : Takes (cxOf (L2.CX P w) P w K mg base ["_law_cell", "_law_k", "_law_number"] "_law_mixed" (defScope st__law_mixed) (He.ga K "_law_mixed") cdv A outer s0 H E) (WX0 E) := takes_of rfl rfl rfl rfl
  have hp : PassesOwn (model P w) (cxOf (L2.CX P w) P w K mg base ["_law_cell", "_law_k", "_law_number"] "_law_mixed" (defScope st__law_mixed) (He.ga K "_law_mixed") cdv A outer s0 H E).A (cxOf (L2.CX P w) P w K mg base ["_law_cell", "_law_k", "_law_number"] "_law_mixed" (defScope st__law_mixed) (He.ga K "_law_mixed") cdv A outer s0 H E).env (cxOf (L2.CX P w) P w K mg base ["_law_cell", "_law_k", "_law_number"] "_law_mixed" (defScope st__law_mixed) (He.ga K "_law_mixed") cdv A outer s0 H E).xe := passes_of rfl
  have nd : List.Nodup (α := Str) ["_law_cell", "_law_k", "_law_number"] := sc__law_mixed.nd
  have hu : (A.deeper (envOfC "_law_mixed" (defScope st__law_mixed) s0.heap.objs.size (He.ga K "_law_mixed") cdv)).units + 65 < cLine := by have := hr.un; omega
  have hu4 : (A.deeper (envOfC "_law_mixed" (defScope st__law_mixed) s0.heap.objs.size (He.ga K "_law_mixed") cdv)).units + 64 < cLine := by omega
  exact pss_d_cons
    (ps_d_set (ps_set (i := 2) nd rfl (by first | exact Or.inl rfl | exact Or.inr rfl) (pd_op op_mod hr_mod (pd_callTy call_int1 hr_int (by rfl) g.f_int bt_int (pd_cons (pd_op op_plus hr_add (pd_op op_plus hr_add (pd_mul (pd_op op_mod hr_mod (pd_callTy call_int1 hr_int (by rfl) g.f_int bt_int (pd_cons (pd_name (pv 0)) pd_nil)) (pd_c pe_int (fun _ => .int _))) (pd_c pe_int (fun _ => .int _))) (pd_mul (pd_name (pv 1)) (pd_c pe_int (fun _ => .int _)))) (pd_c pe_int (fun _ => .int _))) pd_nil)) (pd_c pe_int (fun _ => .int _)))))
    (pss_d_cons
    (ps_d_set (ps_set (i := 2) nd rfl (by first | exact Or.inl rfl | exact Or.inr rfl) (pd_op op_mod hr_mod (pd_callTy call_int1 hr_int (by rfl) g.f_int bt_int (pd_cons (pd_mul (pd_name (pv 2)) (pd_name (pv 2))) pd_nil)) (pd_c pe_int (fun _ => .int _)))))
    (pss_d_cons
    (ps_d_ret (pd_op op_mod hr_mod (pd_callTy call_int1 hr_int (by rfl) g.f_int bt_int (pd_cons (pd_mul (pd_name (pv 2)) (pd_op op_plus hr_add (pd_name (pv 2)) (pd_c pe_int (fun _ => .int _)))) pd_nil)) (pd_c pe_int (fun _ => .int _))))
    (pss_d_nil)))
theorem has__law_mixed (g : Gs K mg) (F : ∃ fd, FnP K "_law_mixed" st__law_mixed fd)  : Has P w K mg base 1 "_law_mixed" ["_law_cell", "_law_k"] fn__law_mixed := by
  obtain ⟨fd, F⟩ := F
  exact ⟨fd, ok__law_mixed g F , F.bindsN fun _ _ _ _ _ _ us hl => (match us, hl with | [_, _], _ => rfl), F.kp, g.d__law_mixed⟩
abbrev st__law_take : Stmt := top 33
theorem sc__law_take : FnScope ["_law_pile_here", "_law_size", "_law_digit"] ["_law_pile_here", "_law_size"] (defScope st__law_take) := ⟨rfl, rfl, rfl, by decide +kernel, rfl, by decide +kernel, by decide +kernel⟩
theorem ok__law_take (g : Gs K mg) {fd : FuncData} (F : FnP K "_law_take" st__law_take fd)  : FnG P w K mg base 1 (He.ga K "_law_take") fd ["_law_pile_here", "_law_size"] (spD K 2 fn__law_take) := by
  refine fn_d (k := 0) F sc__law_take fun cdv A outer s0 H E hr hgd => ?_
  have tk : Takes (cxOf (L2.CX P w) P w K mg base ["_law_pile_here", "_law_size", "_law_digit"] "_law_take" (defScope st__law_take) (He.ga K "_law_take") cdv A outer s0 H E) (WX0 E) := takes_of rfl rfl rfl rfl
  have hp : PassesOwn (model P w) (cxOf (L2.CX P w) P w K mg base ["_law_pile_here", "_law_size", "_law_digit"] "_law_take" (defScope st__law_take) (He.ga K "_law_take") cdv A outer s0 H E).A (cxOf (L2.CX P w) P w K mg base ["_law_pile_here", "_law_size", "_law_digit"] "_law_take" (defScope st__law_take) (He.ga K "_law_take") cdv A outer s0 H E).env (cxOf (L2.CX P w) P w K mg base ["_law_pile_here", "_law_size", "_law_digit"] "_law_take" (defScope st__law_take) (He.ga K "_law_take") cdv A outer s0 H E).xe := passes_of rfl
  have nd : List.Nodup (α := Str) ["_law_pile_here", "_law_size", "_law_digit"] := sc__law_take.nd
  have hu : (A.deeper (envOfC "_law_take" (defScope st__law_take) s0.heap.objs.size (He.ga K "_law_take") cdv)).units + 65 < cLine := by have := hr.un; omega
  have hu4 : (A.deeper (envOfC "_law_take" (defScope st__law_take) s0.heap.objs.size (He.ga K "_law_take") cdv)).units + 64 < cLine := by omega
  exact pss_d_cons
    (ps_d_set (ps_set (i := 2) nd rfl (by first | exact Or.inl rfl | exact Or.inr rfl) (pd_op op_mod hr_mod (pd_callTy call_int1 hr_int (by rfl) g.f_int bt_int (pd_cons (pd_ix ix_seq hr_ix (pd_name (pv 0)) (pd_c pe_int (fun _ => .int _)) (fun _ _ => rfl)) pd_nil)) (pd_name (pv 1)))))
    (pss_d_cons
    (ps_d_seti (j := 0) (x := "") (p0 := ⟨0, 0, 0, 0⟩) (ps_asg (pd_es (pd_op op_fdiv hr_div (pd_ix ix_seq hr_ix (pd_name (pv 0)) (pd_c pe_int (fun _ => .int _)) (fun _ _ => rfl)) (pd_name (pv 1)))) (pg_sub (pv 0) (pd_c pe_int (fun _ => .int _)) set_list)))
    (pss_d_cons
    (ps_d_ret (pd_name (pv 2)))
    (pss_d_nil)))
theorem has__law_take (g : Gs K mg) (F : ∃ fd, FnP K "_law_take" st__law_take fd)  : Has P w K mg base 1 "_law_take" ["_law_pile_here", "_law_size"] fn__law_take := by
  obtain ⟨fd, F⟩ := F
  exact ⟨fd, ok__law_take g F , F.bindsN fun _ _ _ _ _ _ us hl => (match us, hl with | [_, _], _ => rfl), F.kp, g.d__law_take⟩
abbrev st__law_puts : Stmt := top 40
theorem sc__law_puts : FnScope ["_law_order", "_law_one", "_law_other"] ["_law_order", "_law_one", "_law_other"] (defScope st__law_puts) := ⟨rfl, rfl, rfl, by decide +kernel, rfl, by decide +kernel, by decide +kernel⟩
theorem ok__law_puts (g : Gs K mg) {fd : FuncData} (F : FnP K "_law_puts" st__law_puts fd)  : FnG P w K mg base 1 (He.ga K "_law_puts") fd ["_law_order", "_law_one", "_law_other"] (spD K 3 fn__law_puts) := by
  refine fn_d (k := 0) F sc__law_puts fun cdv A outer s0 H E hr hgd => ?_
  have tk : Takes (cxOf (L2.CX P w) P w K mg base ["_law_order", "_law_one", "_law_other"] "_law_puts" (defScope st__law_puts) (He.ga K "_law_puts") cdv A outer s0 H E) (WX0 E) := takes_of rfl rfl rfl rfl
  have hp : PassesOwn (model P w) (cxOf (L2.CX P w) P w K mg base ["_law_order", "_law_one", "_law_other"] "_law_puts" (defScope st__law_puts) (He.ga K "_law_puts") cdv A outer s0 H E).A (cxOf (L2.CX P w) P w K mg base ["_law_order", "_law_one", "_law_other"] "_law_puts" (defScope st__law_puts) (He.ga K "_law_puts") cdv A outer s0 H E).env (cxOf (L2.CX P w) P w K mg base ["_law_order", "_law_one", "_law_other"] "_law_puts" (defScope st__law_puts) (He.ga K "_law_puts") cdv A outer s0 H E).xe := passes_of rfl
  have nd : List.Nodup (α := Str) ["_law_order", "_law_one", "_law_other"] := sc__law_puts.nd
  have hu : (A.deeper (envOfC "_law_puts" (defScope st__law_puts) s0.heap.objs.size (He.ga K "_law_puts") cdv)).units + 65 < cLine := by have := hr.un; omega
  have hu4 : (A.deeper (envOfC "_law_puts" (defScope st__law_puts) s0.heap.objs.size (He.ga K "_law_puts") cdv)).units + 64 < cLine := by omega
  exact pss_d_cons
    (ps_d_if ((pw_d_or (pt_d_isN (pd_name (pv 1))) (pw_d_or1 (pt_d_isN (pd_name (pv 2))))).pt) (pss_d_cons
      (ps_d_ret (pd_cmp (op_eqA hu4) hr_eq (pd_isN (pd_name (pv 1))) (pd_cmp (op_inA hu) hr_in (pd_name (pv 0)) (pd_lst (pd_cons (pd_c pe_str (fun _ => .str _)) (pd_cons (pd_c pe_str (fun _ => .str _)) pd_nil))) (by first | rfl | exact nomark _)) (by first | rfl | exact nomark _)))
      (pss_d_nil)) (pss_d_nil))
    (pss_d_cons
    (ps_d_ret (pd_cmp (op_eqA hu4) hr_eq (pd_cmp op_lt hr_cmpI (pd_name (pv 1)) (pd_name (pv 2)) (by first | rfl | exact nomark _)) (pd_cmp (op_inA hu) hr_in (pd_name (pv 0)) (pd_lst (pd_cons (pd_c pe_str (fun _ => .str _)) (pd_cons (pd_c pe_str (fun _ => .str _)) pd_nil))) (by first | rfl | exact nomark _)) (by first | rfl | exact nomark _)))
    (pss_d_nil))
theorem has__law_puts (g : Gs K mg) (F : ∃ fd, FnP K "_law_puts" st__law_puts fd)  : Has P w K mg base 1 "_law_puts" ["_law_order", "_law_one", "_law_other"] fn__law_puts := by
  obtain ⟨fd, F⟩ := F
  exact ⟨fd, ok__law_puts g F , F.bindsN fun _ _ _ _ _ _ us hl => (match us, hl with | [_, _, _], _ => rfl), F.kp, g.d__law_puts⟩
abbrev st__law_whole : Stmt := top 43
theorem sc__law_whole : FnScope ["_law_thing"] ["_law_thing"] (defScope st__law_whole) := ⟨rfl, rfl, rfl, by decide +kernel, rfl, by decide +kernel, by decide +kernel⟩
theorem ok__law_whole (g : Gs K mg) {fd : FuncData} (F : FnP K "_law_whole" st__law_whole fd)  : FnG P w K mg base 1 (He.ga K "_law_whole") fd ["_law_thing"] (spD K 1 fn__law_whole) := by
  refine fn_d (k := 0) F sc__law_whole fun cdv A outer s0 H E hr hgd => ?_
  have tk : Takes (cxOf (L2.CX P w) P w K mg base ["_law_thing"] "_law_whole" (defScope st__law_whole) (He.ga K "_law_whole") cdv A outer s0 H E) (WX0 E) := takes_of rfl rfl rfl rfl
  have hp : PassesOwn (model P w) (cxOf (L2.CX P w) P w K mg base ["_law_thing"] "_law_whole" (defScope st__law_whole) (He.ga K "_law_whole") cdv A outer s0 H E).A (cxOf (L2.CX P w) P w K mg base ["_law_thing"] "_law_whole" (defScope st__law_whole) (He.ga K "_law_whole") cdv A outer s0 H E).env (cxOf (L2.CX P w) P w K mg base ["_law_thing"] "_law_whole" (defScope st__law_whole) (He.ga K "_law_whole") cdv A outer s0 H E).xe := passes_of rfl
  have nd : List.Nodup (α := Str) ["_law_thing"] := sc__law_whole.nd
  have hu : (A.deeper (envOfC "_law_whole" (defScope st__law_whole) s0.heap.objs.size (He.ga K "_law_whole") cdv)).units + 65 < cLine := by have := hr.un; omega
  have hu4 : (A.deeper (envOfC "_law_whole" (defScope st__law_whole) s0.heap.objs.size (He.ga K "_law_whole") cdv)).units + 64 < cLine := by omega
  exact pss_d_cons
    (ps_d_ret (pd_and (pd_isi (by rfl) g.f_isinstance (.ty _) ck_int (pd_name (pv 0)) (pe_bltn (by rfl) g.f_int bt_int rfl)) (pd_one (pd_not (pd_isi (by rfl) g.f_isinstance (.ty _) ck_bool (pd_name (pv 0)) (pe_bltn (by rfl) g.f_bool bt_bool rfl))))))
    (pss_d_nil)
theorem has__law_whole (g : Gs K mg) (F : ∃ fd, FnP K "_law_whole" st__law_whole fd)  : Has P w K mg base 1 "_law_whole" ["_law_thing"] fn__law_whole := by
  obtain ⟨fd, F⟩ := F
  exact ⟨fd, ok__law_whole g F , F.bindsN fun _ _ _ _ _ _ us hl => (match us, hl with | [_], _ => rfl), F.kp, g.d__law_whole⟩
abbrev st_is_schema : Stmt := top 8
theorem sc_is_schema : FnScope ["thing", "column"] ["thing"] (defScope st_is_schema) := ⟨rfl, rfl, rfl, by decide +kernel, rfl, by decide +kernel, by decide +kernel⟩
theorem ok_is_schema (g : Gs K mg) {fd : FuncData} (F : FnP K "is_schema" st_is_schema fd) (h_is_column : Has P w K mg base 1 "is_column" ["thing"] fn_is_column) : FnG P w K mg base 2 (He.ga K "is_schema") fd ["thing"] (spD K 1 fn_is_schema) := by
  refine fn_d (k := 1) F sc_is_schema fun cdv A outer s0 H E hr hgd => ?_
  have tk : Takes (cxOf (L2.CX P w) P w K mg base ["thing", "column"] "is_schema" (defScope st_is_schema) (He.ga K "is_schema") cdv A outer s0 H E) (WX0 E) := takes_of rfl rfl rfl rfl
  have hp : PassesOwn (model P w) (cxOf (L2.CX P w) P w K mg base ["thing", "column"] "is_schema" (defScope st_is_schema) (He.ga K "is_schema") cdv A outer s0 H E).A (cxOf (L2.CX P w) P w K mg base ["thing", "column"] "is_schema" (defScope st_is_schema) (He.ga K "is_schema") cdv A outer s0 H E).env (cxOf (L2.CX P w) P w K mg base ["thing", "column"] "is_schema" (defScope st_is_schema) (He.ga K "is_schema") cdv A outer s0 H E).xe := passes_of rfl
  have nd : List.Nodup (α := Str) ["thing", "column"] := sc_is_schema.nd
  have hu : (A.deeper (envOfC "is_schema" (defScope st_is_schema) s0.heap.objs.size (He.ga K "is_schema") cdv)).units + 65 < cLine := by have := hr.un; omega
  have hu4 : (A.deeper (envOfC "is_schema" (defScope st_is_schema) s0.heap.objs.size (He.ga K "is_schema") cdv)).units + 64 < cLine := by omega
  exact pss_d_cons
    (ps_d_if ((pw_d_or (pt_d_not (pt_d_val (pd_isi (by rfl) g.f_isinstance (.ty _) ck_list (pd_name (pv 0)) (pe_bltn (by rfl) g.f_list bt_list rfl)))) (pw_d_or1 (pt_d_not (pt_d_chain op_le hr_cmpI op_le hr_cmpI (pd_c pe_int (fun _ => .int _)) (pd_callB cr_lenA hr_len (by rfl) g.f_len bt_len (pd_cons (pd_name (pv 0)) pd_nil)) (pd_gint (by rfl) g.k_MOST_COLUMNS))))).pt) (pss_d_cons
      (ps_d_ret (pd_c pe_bl (fun _ => .bl _)))
      (pss_d_nil)) (pss_d_nil))
    (pss_d_cons
    (ps_d_ret (pd_callB (cr_all (by rfl)) hr_all (by rfl) g.f_all bt_all (pd_cons (pd_lc (by rfl) nd (pd_es (pd_name (pv 0))) (blkOk_by (N := ["thing", "column"]) (sc := defScope st_is_schema) (own := [("column", 1)]) (by decide +kernel)) (fun _ _ _ _ _ => pg_name (i := 1) nd rfl (by first | exact Or.inl rfl | exact Or.inr rfl)) tg_name (by rfl) (by decide) (fun _ _ _ _ _ => pts_nil) tt_yes (fun _ _ _ _ _ => pd_es (kal h_is_column (by omega) hr hgd takes0 (by rfl) (pd_cons (pd_es (pd_name (pv 1))) pd_nil)))) pd_nil)))
    (pss_d_nil))
theorem has_is_schema (g : Gs K mg) (F : ∃ fd, FnP K "is_schema" st_is_schema fd) (h_is_column : Has P w K mg base 1 "is_column" ["thing"] fn_is_column) : Has P w K mg base 2 "is_schema" ["thing"] fn_is_schema := by
  obtain ⟨fd, F⟩ := F
  exact ⟨fd, ok_is_schema g F h_is_column, F.bindsN fun _ _ _ _ _ _ us hl => (match us, hl with | [_], _ => rfl), F.kp, g.d_is_schema⟩
abbrev st_is_number_below : Stmt := top 12
theorem sc_is_number_below : FnScope ["many", "thing"] ["many", "thing"] (defScope st_is_number_below) := ⟨rfl, rfl, rfl, by decide +kernel, rfl, by decide +kernel, by decide +kernel⟩
theorem ok_is_number_below (g : Gs K mg) {fd : FuncData} (F : FnP K "is_number_below" st_is_number_below fd) (h_is_whole : Has P w K mg base 1 "is_whole" ["thing"] fn_is_whole) : FnG P w K mg base 2 (He.ga K "is_number_below") fd ["many", "thing"] (spD K 2 fn_is_number_below) := by
  refine fn_d (k := 1) F sc_is_number_below fun cdv A outer s0 H E hr hgd => ?_
  have tk : Takes (cxOf (L2.CX P w) P w K mg base ["many", "thing"] "is_number_below" (defScope st_is_number_below) (He.ga K "is_number_below") cdv A outer s0 H E) (WX0 E) := takes_of rfl rfl rfl rfl
  have hp : PassesOwn (model P w) (cxOf (L2.CX P w) P w K mg base ["many", "thing"] "is_number_below" (defScope st_is_number_below) (He.ga K "is_number_below") cdv A outer s0 H E).A (cxOf (L2.CX P w) P w K mg base ["many", "thing"] "is_number_below" (defScope st_is_number_below) (He.ga K "is_number_below") cdv A outer s0 H E).env (cxOf (L2.CX P w) P w K mg base ["many", "thing"] "is_number_below" (defScope st_is_number_below) (He.ga K "is_number_below") cdv A outer s0 H E).xe := passes_of rfl
  have nd : List.Nodup (α := Str) ["many", "thing"] := sc_is_number_below.nd
  have hu : (A.deeper (envOfC "is_number_below" (defScope st_is_number_below) s0.heap.objs.size (He.ga K "is_number_below") cdv)).units + 65 < cLine := by have := hr.un; omega
  have hu4 : (A.deeper (envOfC "is_number_below" (defScope st_is_number_below) s0.heap.objs.size (He.ga K "is_number_below") cdv)).units + 64 < cLine := by omega
  exact pss_d_cons
    (ps_d_ret (pd_and (kal h_is_whole (by omega) hr hgd tk (by rfl) (pd_cons (pd_es (pd_name (pv 1))) pd_nil)) (pd_one (pd_chain op_le hr_cmpI op_lt hr_cmpI (pd_c pe_int (fun _ => .int _)) (pd_name (pv 1)) (pd_name (pv 0))))))
    (pss_d_nil)
theorem has_is_number_below (g : Gs K mg) (F : ∃ fd, FnP K "is_number_below" st_is_number_below fd) (h_is_whole : Has P w K mg base 1 "is_whole" ["thing"] fn_is_whole) : Has P w K mg base 2 "is_number_below" ["many", "thing"] fn_is_number_below := by
  obtain ⟨fd, F⟩ := F
  exact ⟨fd, ok_is_number_below g F h_is_whole, F.bindsN fun _ _ _ _ _ _ us hl => (match us, hl with | [_, _], _ => rfl), F.kp, g.d_is_number_below⟩
abbrev st_is_value : Stmt := top 13
theorem sc_is_value : FnScope ["thing"] ["thing"] (defScope st_is_value) := ⟨rfl, rfl, rfl, by decide +kernel, rfl, by decide +kernel, by decide +kernel⟩
theorem ok_is_value (g : Gs K mg) {fd : FuncData} (F : FnP K "is_value" st_is_value fd) (h_is_whole : Has P w K mg base 1 "is_whole" ["thing"] fn_is_whole) : FnG P w K mg base 2 (He.ga K "is_value") fd ["thing"] (spD K 1 fn_is_value) := by
  refine fn_d (k := 1) F sc_is_value fun cdv A outer s0 H E hr hgd => ?_
  have tk : Takes (cxOf (L2.CX P w) P w K mg base ["thing"] "is_value" (defScope st_is_value) (He.ga K "is_value") cdv A outer s0 H E) (WX0 E) := takes_of rfl rfl rfl rfl
  have hp : PassesOwn (model P w) (cxOf (L2.CX P w) P w K mg base ["thing"] "is_value" (defScope st_is_value) (He.ga K "is_value") cdv A outer s0 H E).A (cxOf (L2.CX P w) P w K mg base ["thing"] "is_value" (defScope st_is_value) (He.ga K "is_value") cdv A outer s0 H E).env (cxOf (L2.CX P w) P w K mg base ["thing"] "is_value" (defScope st_is_value) (He.ga K "is_value") cdv A outer s0 H E).xe := passes_of rfl
  have nd : List.Nodup (α := Str) ["thing"] := sc_is_value.nd
  have hu : (A.deeper (envOfC "is_value" (defScope st_is_value) s0.heap.objs.size (He.ga K "is_value") cdv)).units + 65 < cLine := by have := hr.un; omega
  have hu4 : (A.deeper (envOfC "is_value" (defScope st_is_value) s0.heap.objs.size (He.ga K "is_value") cdv)).units + 64 < cLine := by omega
  exact pss_d_cons
    (ps_d_ret (pd_or (pd_isN (pd_name (pv 0))) (pd_one (kal h_is_whole (by omega) hr hgd tk (by rfl) (pd_cons (pd_es (pd_name (pv 0))) pd_nil)))))
    (pss_d_nil)
theorem has_is_value (g : Gs K mg) (F : ∃ fd, FnP K "is_value" st_is_value fd) (h_is_whole : Has P w K mg base 1 "is_whole" ["thing"] fn_is_whole) : Has P w K mg base 2 "is_value" ["thing"] fn_is_value := by
  obtain ⟨fd, F⟩ := F
  exact ⟨fd, ok_is_value g F h_is_whole, F.bindsN fun _ _ _ _ _ _ us hl => (match us, hl with | [_], _ => rfl), F.kp, g.d_is_value⟩
abbrev st_flat_says : Stmt := top 26
theorem sc_flat_says : FnScope ["flat", "x", "y", "column", "order"] ["flat", "x", "y"] (defScope st_flat_says) := ⟨rfl, rfl, rfl, by decide +kernel, rfl, by decide +kernel, by decide +kernel⟩
theorem ok_flat_says (g : Gs K mg) {fd : FuncData} (F : FnP K "flat_says" st_flat_says fd) (h_order_says : Has P w K mg base 1 "order_says" ["order", "one", "other"] fn_order_says) : FnG P w K mg base 2 (He.ga K "flat_says") fd ["flat", "x", "y"] (spD K 3 fn_flat_says) := by
  refine fn_d (k := 1) F sc_flat_says fun cdv A outer s0 H E hr hgd => ?_
  have tk : Takes (cxOf (L2.CX P w) P w K mg base ["flat", "x", "y", "column", "order"] "flat_says" (defScope st_flat_says) (He.ga K "flat_says") cdv A outer s0 H E) (WX0 E) := takes_of rfl rfl rfl rfl
  have hp : PassesOwn (model P w) (cxOf (L2.CX P w) P w K mg base ["flat", "x", "y", "column", "order"] "flat_says" (defScope st_flat_says) (He.ga K "flat_says") cdv A outer s0 H E).A (cxOf (L2.CX P w) P w K mg base ["flat", "x", "y", "column", "order"] "flat_says" (defScope st_flat_says) (He.ga K "flat_says") cdv A outer s0 H E).env (cxOf (L2.CX P w) P w K mg base ["flat", "x", "y", "column", "order"] "flat_says" (defScope st_flat_says) (He.ga K "flat_says") cdv A outer s0 H E).xe := passes_of rfl
  have nd : List.Nodup (α := Str) ["flat", "x", "y", "column", "order"] := sc_flat_says.nd
  have hu : (A.deeper (envOfC "flat_says" (defScope st_flat_says) s0.heap.objs.size (He.ga K "flat_says") cdv)).units + 65 < cLine := by have := hr.un; omega
  have hu4 : (A.deeper (envOfC "flat_says" (defScope st_flat_says) s0.heap.objs.size (He.ga K "flat_says") cdv)).units + 64 < cLine := by omega
  exact pss_d_cons
    (ps_d_for hp rfl (pd_es (pd_name (pv 0))) (pg_tup rfl (pgs_cons (pg_name (i := 3) nd rfl (by first | exact Or.inl rfl | exact Or.inr rfl)) (pgs_cons (pg_name (i := 4) nd rfl (by first | exact Or.inl rfl | exact Or.inr rfl)) (pgs_nil)))) (tg_tup (js := [3, 4]) rfl) (pss_d_cons
      (ps_d_if (pt_d_cmp (op_neA hu4) hr_ne (pd_ix ix_seq hr_ix (pd_name (pv 1)) (pd_name (pv 3)) (fun _ _ => rfl)) (pd_ix ix_seq hr_ix (pd_name (pv 2)) (pd_name (pv 3)) (fun _ _ => rfl)) (by first | rfl | exact nomark _)) (pss_d_cons
        (ps_d_ret (kal h_order_says (by omega) hr hgd tk (by rfl) (pd_cons (pd_es (pd_name (pv 4))) (pd_cons (pd_es (pd_ix ix_seq hr_ix (pd_name (pv 1)) (pd_name (pv 3)) (fun _ _ => rfl))) (pd_cons (pd_es (pd_ix ix_seq hr_ix (pd_name (pv 2)) (pd_name (pv 3)) (fun _ _ => rfl))) pd_nil)))))
        (pss_d_nil)) (pss_d_nil))
      (pss_d_nil)))
    (pss_d_cons
    (ps_d_ret (pd_c pe_int (fun _ => .int _)))
    (pss_d_nil))
theorem has_flat_says (g : Gs K mg) (F : ∃ fd, FnP K "flat_says" st_flat_says fd) (h_order_says : Has P w K mg base 1 "order_says" ["order", "one", "other"] fn_order_says) : Has P w K mg base 2 "flat_says" ["flat", "x", "y"] fn_flat_says := by
  obtain ⟨fd, F⟩ := F
  exact ⟨fd, ok_flat_says g F h_order_says, F.bindsN fun _ _ _ _ _ _ us hl => (match us, hl with | [_, _, _], _ => rfl), F.kp, g.d_flat_says⟩
abbrev st_tree_says : Stmt := top 27
theorem sc_tree_says : FnScope ["tree", "x", "y", "column"] ["tree", "x", "y"] (defScope st_tree_says) := ⟨rfl, rfl, rfl, by decide +kernel, rfl, by decide +kernel, by decide +kernel⟩
theorem ok_tree_says (g : Gs K mg) {fd : FuncData} (F : FnP K "tree_says" st_tree_says fd) {j : Nat} {f_rec : FD} (h_order_says : Has P w K mg base 1 "order_says" ["order", "one", "other"] fn_order_says) (h_tree_for : Has P w K mg base 1 "tree_for" ["tree", "value"] fn_tree_for) (h_tree_says : Has P w K mg base (1 + j) "tree_says" ["tree", "x", "y"] f_rec) : FnG P w K mg base (1 + j + 1) (He.ga K "tree_says") fd ["tree", "x", "y"] (spD K 3 (fnD 4 (dn_tree_says f_rec))) := by
  refine fn_d (k := 1 + j) F sc_tree_says fun cdv A outer s0 H E hr hgd => ?_
  have tk : Takes (cxOf (L2.CX P w) P w K mg base ["tree", "x", "y", "column"] "tree_says" (defScope st_tree_says) (He.ga K "tree_says") cdv A outer s0 H E) (WX0 E) := takes_of rfl rfl rfl rfl
  have hp : PassesOwn (model P w) (cxOf (L2.CX P w) P w K mg base ["tree", "x", "y", "column"] "tree_says" (defScope st_tree_says) (He.ga K "tree_says") cdv A outer s0 H E).A (cxOf (L2.CX P w) P w K mg base ["tree", "x", "y", "column"] "tree_says" (defScope st_tree_says) (He.ga K "tree_says") cdv A outer s0 H E).env (cxOf (L2.CX P w) P w K mg base ["tree", "x", "y", "column"] "tree_says" (defScope st_tree_says) (He.ga K "tree_says") cdv A outer s0 H E).xe := passes_of rfl
  have nd : List.Nodup (α := Str) ["tree", "x", "y", "column"] := sc_tree_says.nd
  have hu : (A.deeper (envOfC "tree_says" (defScope st_tree_says) s0.heap.objs.size (He.ga K "tree_says") cdv)).units + 65 < cLine := by have := hr.un; omega
  have hu4 : (A.deeper (envOfC "tree_says" (defScope st_tree_says) s0.heap.objs.size (He.ga K "tree_says") cdv)).units + 64 < cLine := by omega
  exact pss_d_cons
    (ps_d_if (pt_d_isN (pd_name (pv 0))) (pss_d_cons
      (ps_d_ret (pd_c pe_int (fun _ => .int _)))
      (pss_d_nil)) (pss_d_nil))
    (pss_d_cons
    (ps_d_set (ps_set (i := 3) nd rfl (by first | exact Or.inl rfl | exact Or.inr rfl) (pd_ix ix_seq hr_ix (pd_name (pv 0)) (pd_c pe_int (fun _ => .int _)) (fun _ _ => rfl))))
    (pss_d_cons
    (ps_d_if (pt_d_cmp (op_neA hu4) hr_ne (pd_ix ix_seq hr_ix (pd_name (pv 1)) (pd_name (pv 3)) (fun _ _ => rfl)) (pd_ix ix_seq hr_ix (pd_name (pv 2)) (pd_name (pv 3)) (fun _ _ => rfl)) (by first | rfl | exact nomark _)) (pss_d_cons
      (ps_d_ret (kal h_order_says (by omega) hr hgd tk (by rfl) (pd_cons (pd_es (pd_ix ix_seq hr_ix (pd_name (pv 0)) (pd_c pe_int (fun _ => .int _)) (fun _ _ => rfl))) (pd_cons (pd_es (pd_ix ix_seq hr_ix (pd_name (pv 1)) (pd_name (pv 3)) (fun _ _ => rfl))) (pd_cons (pd_es (pd_ix ix_seq hr_ix (pd_name (pv 2)) (pd_name (pv 3)) (fun _ _ => rfl))) pd_nil)))))
      (pss_d_nil)) (pss_d_nil))
    (pss_d_cons
    (ps_d_ret (kal h_tree_says (by omega) hr hgd tk (by rfl) (pd_cons (pd_es (kal h_tree_for (by omega) hr hgd tk (by rfl) (pd_cons (pd_es (pd_name (pv 0))) (pd_cons (pd_es (pd_ix ix_seq hr_ix (pd_name (pv 1)) (pd_name (pv 3)) (fun _ _ => rfl))) pd_nil)))) (pd_cons (pd_es (pd_name (pv 1))) (pd_cons (pd_es (pd_name (pv 2))) pd_nil)))))
    (pss_d_nil))))
theorem has_tree_says (g : Gs K mg) (F : ∃ fd, FnP K "tree_says" st_tree_says fd) (h_order_says : Has P w K mg base 1 "order_says" ["order", "one", "other"] fn_order_says) (h_tree_for : Has P w K mg base 1 "tree_for" ["tree", "value"] fn_tree_for) : ∀ j : Nat, Has P w K mg base (1 + j) "tree_says" ["tree", "x", "y"] (fn_tree_says j)
  | 0 => by
    obtain ⟨fd, F⟩ := F
    exact ⟨fd, fnG_bad, F.bindsN fun _ _ _ _ _ _ us hl => (match us, hl with | [_, _, _], _ => rfl), F.kp, g.d_tree_says⟩
  | j + 1 => by
    have ih := has_tree_says g F h_order_says h_tree_for j
    obtain ⟨fd, F⟩ := F
    exact ⟨fd, ok_tree_says g F h_order_says h_tree_for ih, F.bindsN fun _ _ _ _ _ _ us hl => (match us, hl with | [_, _, _], _ => rfl), F.kp, g.d_tree_says⟩
abbrev st__law_pile : Stmt := top 32
theorem sc__law_pile : FnScope ["_law_script", "_law_k", "_law_cell", "_law_found", "_law_j"] ["_law_script", "_law_k"] (defScope st__law_pile) := ⟨rfl, rfl, rfl, by decide +kernel, rfl, by decide +kernel, by decide +kernel⟩
theorem ok__law_pile (g : Gs K mg) {fd : FuncData} (F : FnP K "_law_pile" st__law_pile fd) (h__law_mixed : Has P w K mg base 1 "_law_mixed" ["_law_cell", "_law_k"] fn__law_mixed) : FnG P w K mg base 2 (He.ga K "_law_pile") fd ["_law_script", "_law_k"] (spD K 2 fn__law_pile) := by
  refine fn_d (k := 1) F sc__law_pile fun cdv A outer s0 H E hr hgd => ?_
  have tk : Takes (cxOf (L2.CX P w) P w K mg base ["_law_script", "_law_k", "_law_cell", "_law_found", "_law_j"] "_law_pile" (defScope st__law_pile) (He.ga K "_law_pile") cdv A outer s0 H E) (WX0 E) := takes_of rfl rfl rfl rfl
  have hp : PassesOwn (model P w) (cxOf (L2.CX P w) P w K mg base ["_law_script", "_law_k", "_law_cell", "_law_found", "_law_j"] "_law_pile" (defScope st__law_pile) (He.ga K "_law_pile") cdv A outer s0 H E).A (cxOf (L2.CX P w) P w K mg base ["_law_script", "_law_k", "_law_cell", "_law_found", "_law_j"] "_law_pile" (defScope st__law_pile) (He.ga K "_law_pile") cdv A outer s0 H E).env (cxOf (L2.CX P w) P w K mg base ["_law_script", "_law_k", "_law_cell", "_law_found", "_law_j"] "_law_pile" (defScope st__law_pile) (He.ga K "_law_pile") cdv A outer s0 H E).xe := passes_of rfl
  have nd : List.Nodup (α := Str) ["_law_script", "_law_k", "_law_cell", "_law_found", "_law_j"] := sc__law_pile.nd
  have hu : (A.deeper (envOfC "_law_pile" (defScope st__law_pile) s0.heap.objs.size (He.ga K "_law_pile") cdv)).units + 65 < cLine := by have := hr.un; omega
  have hu4 : (A.deeper (envOfC "_law_pile" (defScope st__law_pile) s0.heap.objs.size (He.ga K "_law_pile") cdv)).units + 64 < cLine := by omega
  exact pss_d_cons
    (ps_d_set (ps_set (i := 2) nd rfl (by first | exact Or.inl rfl | exact Or.inr rfl) (pd_c pe_int (fun _ => .int _))))
    (pss_d_cons
    (ps_d_if (pt_d_cmp op_lt hr_cmpI (pd_name (pv 1)) (pd_callB cr_lenA hr_len (by rfl) g.f_len bt_len (pd_cons (pd_name (pv 0)) pd_nil)) (by first | rfl | exact nomark _)) (pss_d_cons
      (ps_d_set (ps_set (i := 2) nd rfl (by first | exact Or.inl rfl | exact Or.inr rfl) (pd_ix ix_seq hr_ix (pd_name (pv 0)) (pd_name (pv 1)) (fun _ _ => rfl))))
      (pss_d_nil)) (pss_d_nil))
    (pss_d_cons
    (ps_d_if (pt_d_cmp op_ge hr_cmpI (pd_name (pv 2)) (pd_op op_pow hr_pow (pd_c pe_int (fun _ => .int _)) (pd_c pe_int (fun _ => .int _))) (by first | rfl | exact nomark _)) (pss_d_cons
      (ps_d_ret (pd_lst (pd_cons (pd_es (pd_op op_mod hr_mod (pd_callTy call_int1 hr_int (by rfl) g.f_int bt_int (pd_cons (pd_op op_sub hr_sub (pd_name (pv 2)) (pd_op op_pow hr_pow (pd_c pe_int (fun _ => .int _)) (pd_c pe_int (fun _ => .int _)))) pd_nil)) (pd_mul (pd_mul (pd_mul (pd_op op_pow hr_pow (pd_c pe_int (fun _ => .int _)) (pd_c pe_int (fun _ => .int _))) (pd_op op_pow hr_pow (pd_c pe_int (fun _ => .int _)) (pd_c pe_int (fun _ => .int _)))) (pd_op op_pow hr_pow (pd_c pe_int (fun _ => .int _)) (pd_c pe_int (fun _ => .int _)))) (pd_op op_pow hr_pow (pd_c pe_int (fun _ => .int _)) (pd_c pe_int (fun _ => .int _)))))) pd_nil)))
      (pss_d_nil)) (pss_d_nil))
    (pss_d_cons
    (ps_d_set (ps_set (i := 3) nd rfl (by first | exact Or.inl rfl | exact Or.inr rfl) (pd_c pe_int (fun _ => .int _))))
    (pss_d_cons
    (ps_d_forR (.inl ⟨rfl, rfl⟩) hp rfl (pi_range1 (by rfl) g.f_range (pd_cons (pd_c pe_int (fun _ => .int _)) pd_nil)) (pg_name (i := 4) nd rfl (by first | exact Or.inl rfl | exact Or.inr rfl)) tg_name (pss_d_cons
      (ps_d_set (ps_set (i := 3) nd rfl (by first | exact Or.inl rfl | exact Or.inr rfl) (pd_op op_plus hr_add (pd_mul (pd_name (pv 3)) (pd_c pe_int (fun _ => .int _))) (kal h__law_mixed (by omega) hr hgd tk (by rfl) (pd_cons (pd_es (pd_name (pv 2))) (pd_cons (pd_es (pd_op op_plus hr_add (pd_op op_plus hr_add (pd_mul (pd_c pe_int (fun _ => .int _)) (pd_name (pv 1))) (pd_mul (pd_c pe_int (fun _ => .int _)) (pd_name (pv 4)))) (pd_mul (pd_name (pv 4)) (pd_name (pv 4))))) pd_nil))))))
      (pss_d_nil)))
    (pss_d_cons
    (ps_d_ret (pd_lst (pd_cons (pd_es (pd_name (pv 3))) pd_nil)))
    (pss_d_nil))))))
theorem has__law_pile (g : Gs K mg) (F : ∃ fd, FnP K "_law_pile" st__law_pile fd) (h__law_mixed : Has P w K mg base 1 "_law_mixed" ["_law_cell", "_law_k"] fn__law_mixed) : Has P w K mg base 2 "_law_pile" ["_law_script", "_law_k"] fn__law_pile := by
  obtain ⟨fd, F⟩ := F
  exact ⟨fd, ok__law_pile g F h__law_mixed, F.bindsN fun _ _ _ _ _ _ us hl => (match us, hl with | [_, _], _ => rfl), F.kp, g.d__law_pile⟩
abbrev st__law_schema : Stmt := top 34
theorem sc__law_schema : FnScope ["_law_pile_here", "_law_orders", "_law_schema_here", "_law_k", "_law_some", "_law_order"] ["_law_pile_here"] (defScope st__law_schema) := ⟨rfl, rfl, rfl, by decide +kernel, rfl, by decide +kernel, by decide +kernel⟩
theorem ok__law_schema (g : Gs K mg) {fd : FuncData} (F : FnP K "_law_schema" st__law_schema fd) (h__law_take : Has P w K mg base 1 "_law_take" ["_law_pile_here", "_law_size"] fn__law_take) : FnG P w K mg base 2 (He.ga K "_law_schema") fd ["_law_pile_here"] (spD K 1 fn__law_schema) := by
  refine fn_d (k := 1) F sc__law_schema fun cdv A outer s0 H E hr hgd => ?_
  have tk : Takes (cxOf (L2.CX P w) P w K mg base ["_law_pile_here", "_law_orders", "_law_schema_here", "_law_k", "_law_some", "_law_order"] "_law_schema" (defScope st__law_schema) (He.ga K "_law_schema") cdv A outer s0 H E) (WX0 E) := takes_of rfl rfl rfl rfl
  have hp : PassesOwn (model P w) (cxOf (L2.CX P w) P w K mg base ["_law_pile_here", "_law_orders", "_law_schema_here", "_law_k", "_law_some", "_law_order"] "_law_schema" (defScope st__law_schema) (He.ga K "_law_schema") cdv A outer s0 H E).A (cxOf (L2.CX P w) P w K mg base ["_law_pile_here", "_law_orders", "_law_schema_here", "_law_k", "_law_some", "_law_order"] "_law_schema" (defScope st__law_schema) (He.ga K "_law_schema") cdv A outer s0 H E).env (cxOf (L2.CX P w) P w K mg base ["_law_pile_here", "_law_orders", "_law_schema_here", "_law_k", "_law_some", "_law_order"] "_law_schema" (defScope st__law_schema) (He.ga K "_law_schema") cdv A outer s0 H E).xe := passes_of rfl
  have nd : List.Nodup (α := Str) ["_law_pile_here", "_law_orders", "_law_schema_here", "_law_k", "_law_some", "_law_order"] := sc__law_schema.nd
  have hu : (A.deeper (envOfC "_law_schema" (defScope st__law_schema) s0.heap.objs.size (He.ga K "_law_schema") cdv)).units + 65 < cLine := by have := hr.un; omega
  have hu4 : (A.deeper (envOfC "_law_schema" (defScope st__law_schema) s0.heap.objs.size (He.ga K "_law_schema") cdv)).units + 64 < cLine := by omega
  exact pss_d_cons
    (ps_d_set (ps_set (i := 1) nd rfl (by first | exact Or.inl rfl | exact Or.inr rfl) (pd_lst (pd_cons (pd_c pe_str (fun _ => .str _)) (pd_cons (pd_c pe_str (fun _ => .str _)) (pd_cons (pd_c pe_str (fun _ => .str _)) (pd_cons (pd_c pe_str (fun _ => .str _)) pd_nil)))))))
    (pss_d_cons
    (ps_d_set (ps_set (i := 2) nd rfl (by first | exact Or.inl rfl | exact Or.inr rfl) (pd_lst pd_nil)))
    (pss_d_cons
    (ps_d_forR (.inl ⟨rfl, rfl⟩) hp rfl (pi_range1 (by rfl) g.f_range (pd_cons (pd_ix ix_seq hr_ix (pd_lst (pd_cons (pd_c pe_int (fun _ => .int _)) (pd_cons (pd_c pe_int (fun _ => .int _)) (pd_cons (pd_c pe_int (fun _ => .int _)) (pd_cons (pd_c pe_int (fun _ => .int _)) (pd_cons (pd_c pe_int (fun _ => .int _)) (pd_cons (pd_c pe_int (fun _ => .int _)) (pd_cons (pd_c pe_int (fun _ => .int _)) (pd_cons (pd_c pe_int (fun _ => .int _)) pd_nil))))))))) (kalB h__law_take (by omega) hr hgd tk (by rfl) (pd_cons (pd_name (pv 0)) (pd_cons (pd_c pe_int (fun _ => .int _)) pd_nil))) (fun _ _ => rfl)) pd_nil)) (pg_name (i := 3) nd rfl (by first | exact Or.inl rfl | exact Or.inr rfl)) tg_name (pss_d_cons
      (ps_d_set (ps_set (i := 4) nd rfl (by first | exact Or.inl rfl | exact Or.inr rfl) (pd_lst pd_nil)))
      (pss_d_cons
      (ps_d_for hp rfl (pd_es (pd_name (pv 1))) (pg_name (i := 5) nd rfl (by first | exact Or.inl rfl | exact Or.inr rfl)) tg_name (pss_d_cons
        (ps_d_if (pt_d_cmp (op_eqA hu4) hr_eq (kalB h__law_take (by omega) hr hgd tk (by rfl) (pd_cons (pd_name (pv 0)) (pd_cons (pd_c pe_int (fun _ => .int _)) pd_nil))) (pd_c pe_int (fun _ => .int _)) (by first | rfl | exact nomark _)) (pss_d_cons
          (ps_d_expr (pd_mut PySem.F.slot_list_insert PySem.F.type_list_insert mt_insert ox_ins (pv 4) (pd_cons (pd_es (kalB h__law_take (by omega) hr hgd tk (by rfl) (pd_cons (pd_name (pv 0)) (pd_cons (pd_es (pd_op op_plus hr_add (pd_callB cr_lenA hr_len (by rfl) g.f_len bt_len (pd_cons (pd_name (pv 4)) pd_nil)) (pd_c pe_int (fun _ => .int _)))) pd_nil)))) (pd_cons (pd_es (pd_name (pv 5))) pd_nil))))
          (pss_d_nil)) (pss_d_nil))
        (pss_d_nil)))
      (pss_d_cons
      (ps_d_if (pt_d_cmp (op_eqA hu4) hr_eq (pd_name (pv 4)) (pd_lst pd_nil) (by first | rfl | exact nomark _)) (pss_d_cons
        (ps_d_set (ps_set (i := 4) nd rfl (by first | exact Or.inl rfl | exact Or.inr rfl) (pd_lst (pd_cons (pd_es (pd_ix ix_seq hr_ix (pd_name (pv 1)) (kalB h__law_take (by omega) hr hgd tk (by rfl) (pd_cons (pd_name (pv 0)) (pd_cons (pd_c pe_int (fun _ => .int _)) pd_nil))) (fun _ _ => rfl))) pd_nil))))
        (pss_d_nil)) (pss_d_nil))
      (pss_d_cons
      (ps_d_expr (pd_mut PySem.F.slot_list_append PySem.F.type_list_append mt_append ox_app (pv 2) (pd_cons (pd_callTy call_tuple_of hr_tuple (by rfl) g.f_tuple bt_tuple (pd_cons (pd_name (pv 4)) pd_nil)) pd_nil)))
      (pss_d_nil))))))
    (pss_d_cons
    (ps_d_ret (pd_name (pv 2)))
    (pss_d_nil))))
theorem has__law_schema (g : Gs K mg) (F : ∃ fd, FnP K "_law_schema" st__law_schema fd) (h__law_take : Has P w K mg base 1 "_law_take" ["_law_pile_here", "_law_size"] fn__law_take) : Has P w K mg base 2 "_law_schema" ["_law_pile_here"] fn__law_schema := by
  obtain ⟨fd, F⟩ := F
  exact ⟨fd, ok__law_schema g F h__law_take, F.bindsN fun _ _ _ _ _ _ us hl => (match us, hl with | [_], _ => rfl), F.kp, g.d__law_schema⟩
abbrev st__law_value : Stmt := top 35
theorem sc__law_value : FnScope ["_law_pile_here", "_law_wide", "_law_some"] ["_law_pile_here", "_law_wide"] (defScope st__law_value) := ⟨rfl, rfl, rfl, by decide +kernel, rfl, by decide +kernel, by decide +kernel⟩
theorem ok__law_value (g : Gs K mg) {fd : FuncData} (F : FnP K "_law_value" st__law_value fd) (h__law_take : Has P w K mg base 1 "_law_take" ["_law_pile_here", "_law_size"] fn__law_take) : FnG P w K mg base 2 (He.ga K "_law_value") fd ["_law_pile_here", "_law_wide"] (spD K 2 fn__law_value) := by
  refine fn_d (k := 1) F sc__law_value fun cdv A outer s0 H E hr hgd => ?_
  have tk : Takes (cxOf (L2.CX P w) P w K mg base ["_law_pile_here", "_law_wide", "_law_some"] "_law_value" (defScope st__law_value) (He.ga K "_law_value") cdv A outer s0 H E) (WX0 E) := takes_of rfl rfl rfl rfl
  have hp : PassesOwn (model P w) (cxOf (L2.CX P w) P w K mg base ["_law_pile_here", "_law_wide", "_law_some"] "_law_value" (defScope st__law_value) (He.ga K "_law_value") cdv A outer s0 H E).A (cxOf (L2.CX P w) P w K mg base ["_law_pile_here", "_law_wide", "_law_some"] "_law_value" (defScope st__law_value) (He.ga K "_law_value") cdv A outer s0 H E).env (cxOf (L2.CX P w) P w K mg base ["_law_pile_here", "_law_wide", "_law_some"] "_law_value" (defScope st__law_value) (He.ga K "_law_value") cdv A outer s0 H E).xe := passes_of rfl
  have nd : List.Nodup (α := Str) ["_law_pile_here", "_law_wide", "_law_some"] := sc__law_value.nd
  have hu : (A.deeper (envOfC "_law_value" (defScope st__law_value) s0.heap.objs.size (He.ga K "_law_value") cdv)).units + 65 < cLine := by have := hr.un; omega
  have hu4 : (A.deeper (envOfC "_law_value" (defScope st__law_value) s0.heap.objs.size (He.ga K "_law_value") cdv)).units + 64 < cLine := by omega
  exact pss_d_cons
    (ps_d_if (pt_d_cmp (op_eqA hu4) hr_eq (pd_name (pv 1)) (pd_c pe_int (fun _ => .int _)) (by first | rfl | exact nomark _)) (pss_d_cons
      (ps_d_ret (pd_ix ix_seq hr_ix (pd_lst (pd_cons (pd_c pe_non (fun _ => .non)) (pd_cons (pd_c pe_int (fun _ => .int _)) (pd_cons (pd_c pe_int (fun _ => .int _)) (pd_cons (pd_c pe_int (fun _ => .int _)) (pd_cons (pd_c pe_int (fun _ => .int _)) pd_nil)))))) (kalB h__law_take (by omega) hr hgd tk (by rfl) (pd_cons (pd_name (pv 0)) (pd_cons (pd_c pe_int (fun _ => .int _)) pd_nil))) (fun _ _ => rfl)))
      (pss_d_nil)) (pss_d_nil))
    (pss_d_cons
    (ps_d_set (ps_set (i := 2) nd rfl (by first | exact Or.inl rfl | exact Or.inr rfl) (pd_lst (pd_cons (pd_c pe_non (fun _ => .non)) (pd_cons (pd_c pe_int (fun _ => .int _)) (pd_cons (pd_c pe_int (fun _ => .int _)) (pd_cons (pd_c pe_int (fun _ => .int _)) (pd_cons (pd_c pe_int (fun _ => .int _)) (pd_cons (pd_un un_neg hr_neg (pd_c pe_int (fun _ => .int _))) (pd_cons (pd_un un_neg hr_neg (pd_c pe_int (fun _ => .int _))) (pd_cons (pd_c pe_int (fun _ => .int _)) (pd_cons (pd_c pe_int (fun _ => .int _)) (pd_cons (pd_c pe_int (fun _ => .int _)) (pd_cons (pd_c pe_int (fun _ => .int _)) (pd_cons (pd_es (pd_op op_pow hr_pow (pd_c pe_int (fun _ => .int _)) (pd_c pe_int (fun _ => .int _)))) (pd_cons (pd_es (pd_op op_sub hr_sub (pd_op op_pow hr_pow (pd_c pe_int (fun _ => .int _)) (pd_c pe_int (fun _ => .int _))) (pd_c pe_int (fun _ => .int _)))) (pd_cons (pd_es (pd_op op_sub hr_sub (pd_c pe_int (fun _ => .int _)) (pd_op op_pow hr_pow (pd_c pe_int (fun _ => .int _)) (pd_c pe_int (fun _ => .int _))))) (pd_cons (pd_c pe_int (fun _ => .int _)) (pd_cons (pd_un un_neg hr_neg (pd_c pe_int (fun _ => .int _))) pd_nil)))))))))))))))))))
    (pss_d_cons
    (ps_d_ret (pd_ix ix_seq hr_ix (pd_name (pv 2)) (kalB h__law_take (by omega) hr hgd tk (by rfl) (pd_cons (pd_name (pv 0)) (pd_cons (pd_c pe_int (fun _ => .int _)) pd_nil))) (fun _ _ => rfl)))
    (pss_d_nil)))
theorem has__law_value (g : Gs K mg) (F : ∃ fd, FnP K "_law_value" st__law_value fd) (h__law_take : Has P w K mg base 1 "_law_take" ["_law_pile_here", "_law_size"] fn__law_take) : Has P w K mg base 2 "_law_value" ["_law_pile_here", "_law_wide"] fn__law_value := by
  obtain ⟨fd, F⟩ := F
  exact ⟨fd, ok__law_value g F h__law_take, F.bindsN fun _ _ _ _ _ _ us hl => (match us, hl with | [_, _], _ => rfl), F.kp, g.d__law_value⟩
abbrev st__law_order_of : Stmt := top 37
theorem sc__law_order_of : FnScope ["_law_pile_here", "_law_many", "_law_order", "_law_k"] ["_law_pile_here", "_law_many"] (defScope st__law_order_of) := ⟨rfl, rfl, rfl, by decide +kernel, rfl, by decide +kernel, by decide +kernel⟩
theorem ok__law_order_of (g : Gs K mg) {fd : FuncData} (F : FnP K "_law_order_of" st__law_order_of fd) (h__law_take : Has P w K mg base 1 "_law_take" ["_law_pile_here", "_law_size"] fn__law_take) : FnG P w K mg base 2 (He.ga K "_law_order_of") fd ["_law_pile_here", "_law_many"] (spD K 2 fn__law_order_of) := by
  refine fn_d (k := 1) F sc__law_order_of fun cdv A outer s0 H E hr hgd => ?_
  have tk : Takes (cxOf (L2.CX P w) P w K mg base ["_law_pile_here", "_law_many", "_law_order", "_law_k"] "_law_order_of" (defScope st__law_order_of) (He.ga K "_law_order_of") cdv A outer s0 H E) (WX0 E) := takes_of rfl rfl rfl rfl
  have hp : PassesOwn (model P w) (cxOf (L2.CX P w) P w K mg base ["_law_pile_here", "_law_many", "_law_order", "_law_k"] "_law_order_of" (defScope st__law_order_of) (He.ga K "_law_order_of") cdv A outer s0 H E).A (cxOf (L2.CX P w) P w K mg base ["_law_pile_here", "_law_many", "_law_order", "_law_k"] "_law_order_of" (defScope st__law_order_of) (He.ga K "_law_order_of") cdv A outer s0 H E).env (cxOf (L2.CX P w) P w K mg base ["_law_pile_here", "_law_many", "_law_order", "_law_k"] "_law_order_of" (defScope st__law_order_of) (He.ga K "_law_order_of") cdv A outer s0 H E).xe := passes_of rfl
  have nd : List.Nodup (α := Str) ["_law_pile_here", "_law_many", "_law_order", "_law_k"] := sc__law_order_of.nd
  have hu : (A.deeper (envOfC "_law_order_of" (defScope st__law_order_of) s0.heap.objs.size (He.ga K "_law_order_of") cdv)).units + 65 < cLine := by have := hr.un; omega
  have hu4 : (A.deeper (envOfC "_law_order_of" (defScope st__law_order_of) s0.heap.objs.size (He.ga K "_law_order_of") cdv)).units + 64 < cLine := by omega
  exact pss_d_cons
    (ps_d_set (ps_set (i := 2) nd rfl (by first | exact Or.inl rfl | exact Or.inr rfl) (pd_lst pd_nil)))
    (pss_d_cons
    (ps_d_forR (.inl ⟨rfl, rfl⟩) hp rfl (pi_range1 (by rfl) g.f_range (pd_cons (pd_name (pv 1)) pd_nil)) (pg_name (i := 3) nd rfl (by first | exact Or.inl rfl | exact Or.inr rfl)) tg_name (pss_d_cons
      (ps_d_expr (pd_mut PySem.F.slot_list_insert PySem.F.type_list_insert mt_insert ox_ins (pv 2) (pd_cons (pd_es (kalB h__law_take (by omega) hr hgd tk (by rfl) (pd_cons (pd_name (pv 0)) (pd_cons (pd_es (pd_op op_plus hr_add (pd_name (pv 3)) (pd_c pe_int (fun _ => .int _)))) pd_nil)))) (pd_cons (pd_es (pd_name (pv 3))) pd_nil))))
      (pss_d_nil)))
    (pss_d_cons
    (ps_d_ret (pd_name (pv 2)))
    (pss_d_nil)))
theorem has__law_order_of (g : Gs K mg) (F : ∃ fd, FnP K "_law_order_of" st__law_order_of fd) (h__law_take : Has P w K mg base 1 "_law_take" ["_law_pile_here", "_law_size"] fn__law_take) : Has P w K mg base 2 "_law_order_of" ["_law_pile_here", "_law_many"] fn__law_order_of := by
  obtain ⟨fd, F⟩ := F
  exact ⟨fd, ok__law_order_of g F h__law_take, F.bindsN fun _ _ _ _ _ _ us hl => (match us, hl with | [_, _], _ => rfl), F.kp, g.d__law_order_of⟩
abbrev st__law_tree : Stmt := top 39
theorem sc__law_tree : FnScope ["_law_pile_here", "_law_schema_here", "_law_used", "_law_depth", "_law_left", "_law_column", "_law_order", "_law_values", "_law_k", "_law_value_here", "_law_below", "_law_branches"] ["_law_pile_here", "_law_schema_here", "_law_used", "_law_depth"] (defScope st__law_tree) := ⟨rfl, rfl, rfl, by decide +kernel, rfl, by decide +kernel, by decide +kernel⟩
theorem ok__law_tree (g : Gs K mg) {fd : FuncData} (F : FnP K "_law_tree" st__law_tree fd) {j : Nat} {f_rec : FD} (h__law_take : Has P w K mg base 1 "_law_take" ["_law_pile_here", "_law_size"] fn__law_take) (h__law_tree : Has P w K mg base (1 + j) "_law_tree" ["_law_pile_here", "_law_schema_here", "_law_used", "_law_depth"] f_rec) : FnG P w K mg base (1 + j + 1) (He.ga K "_law_tree") fd ["_law_pile_here", "_law_schema_here", "_law_used", "_law_depth"] (spD K 4 (fnD 12 (dn__law_tree f_rec))) := by
  refine fn_d (k := 1 + j) F sc__law_tree fun cdv A outer s0 H E hr hgd => ?_
  have tk : Takes (cxOf (L2.CX P w) P w K mg base ["_law_pile_here", "_law_schema_here", "_law_used", "_law_depth", "_law_left", "_law_column", "_law_order", "_law_values", "_law_k", "_law_value_here", "_law_below", "_law_branches"] "_law_tree" (defScope st__law_tree) (He.ga K "_law_tree") cdv A outer s0 H E) (WX0 E) := takes_of rfl rfl rfl rfl
  have hp : PassesOwn (model P w) (cxOf (L2.CX P w) P w K mg base ["_law_pile_here", "_law_schema_here", "_law_used", "_law_depth", "_law_left", "_law_column", "_law_order", "_law_values", "_law_k", "_law_value_here", "_law_below", "_law_branches"] "_law_tree" (defScope st__law_tree) (He.ga K "_law_tree") cdv A outer s0 H E).A (cxOf (L2.CX P w) P w K mg base ["_law_pile_here", "_law_schema_here", "_law_used", "_law_depth", "_law_left", "_law_column", "_law_order", "_law_values", "_law_k", "_law_value_here", "_law_below", "_law_branches"] "_law_tree" (defScope st__law_tree) (He.ga K "_law_tree") cdv A outer s0 H E).env (cxOf (L2.CX P w) P w K mg base ["_law_pile_here", "_law_schema_here", "_law_used", "_law_depth", "_law_left", "_law_column", "_law_order", "_law_values", "_law_k", "_law_value_here", "_law_below", "_law_branches"] "_law_tree" (defScope st__law_tree) (He.ga K "_law_tree") cdv A outer s0 H E).xe := passes_of rfl
  have nd : List.Nodup (α := Str) ["_law_pile_here", "_law_schema_here", "_law_used", "_law_depth", "_law_left", "_law_column", "_law_order", "_law_values", "_law_k", "_law_value_here", "_law_below", "_law_branches"] := sc__law_tree.nd
  have hu : (A.deeper (envOfC "_law_tree" (defScope st__law_tree) s0.heap.objs.size (He.ga K "_law_tree") cdv)).units + 65 < cLine := by have := hr.un; omega
  have hu4 : (A.deeper (envOfC "_law_tree" (defScope st__law_tree) s0.heap.objs.size (He.ga K "_law_tree") cdv)).units + 64 < cLine := by omega
  exact pss_d_cons
    (ps_d_setLcR (i := 4) rfl nd rfl rfl (sw_true rfl rfl rfl (by decide +kernel)) (by rfl) g.f_range (pd_callB cr_lenA hr_len (by rfl) g.f_len bt_len (pd_cons (pd_name (pv 1)) pd_nil)) (blkOk_by (N := ["_law_pile_here", "_law_schema_here", "_law_used", "_law_depth", "_law_left", "_law_column", "_law_order", "_law_values", "_law_k", "_law_value_here", "_law_below", "_law_branches"]) (sc := defScope st__law_tree) (own := [("_law_column", 5)]) (by decide +kernel)) (fun _ _ _ _ _ => pg_name (i := 5) nd rfl (by first | exact Or.inl rfl | exact Or.inr rfl)) tg_name (by rfl) (by decide) (fun _ _ _ _ _ => pts_one (pt_d_cmp (op_notInA hu) hr_notIn (pd_name (pv 5)) (pd_name (pv 2)) (by first | rfl | exact nomark _))) it_if (fun _ _ _ _ _ => pd_es (pd_name (pv 5))))
    (pss_d_cons
    (ps_d_if ((pw_d_or (pt_d_cmp (op_eqA hu4) hr_eq (pd_name (pv 4)) (pd_lst pd_nil) (by first | rfl | exact nomark _)) (pw_d_or (pt_d_cmp (op_eqA hu4) hr_eq (pd_name (pv 3)) (pd_c pe_int (fun _ => .int _)) (by first | rfl | exact nomark _)) (pw_d_or1 (pt_d_cmp (op_eqA hu4) hr_eq (kalB h__law_take (by omega) hr hgd tk (by rfl) (pd_cons (pd_name (pv 0)) (pd_cons (pd_c pe_int (fun _ => .int _)) pd_nil))) (pd_c pe_int (fun _ => .int _)) (by first | rfl | exact nomark _))))).pt) (pss_d_cons
      (ps_d_ret (pd_c pe_non (fun _ => .non)))
      (pss_d_nil)) (pss_d_nil))
    (pss_d_cons
    (ps_d_set (ps_set (i := 5) nd rfl (by first | exact Or.inl rfl | exact Or.inr rfl) (pd_ix ix_seq hr_ix (pd_name (pv 4)) (kalB h__law_take (by omega) hr hgd tk (by rfl) (pd_cons (pd_name (pv 0)) (pd_cons (pd_callB cr_lenA hr_len (by rfl) g.f_len bt_len (pd_cons (pd_name (pv 4)) pd_nil)) pd_nil))) (fun _ _ => rfl))))
    (pss_d_cons
    (ps_d_set (ps_set (i := 6) nd rfl (by first | exact Or.inl rfl | exact Or.inr rfl) (pd_ix ix_seq hr_ix (pd_ix ix_seq hr_ix (pd_name (pv 1)) (pd_name (pv 5)) (fun _ _ => rfl)) (kalB h__law_take (by omega) hr hgd tk (by rfl) (pd_cons (pd_name (pv 0)) (pd_cons (pd_callB cr_lenA hr_len (by rfl) g.f_len bt_len (pd_cons (pd_ix ix_seq hr_ix (pd_name (pv 1)) (pd_name (pv 5)) (fun _ _ => rfl)) pd_nil)) pd_nil))) (fun _ _ => rfl))))
    (pss_d_cons
    (ps_d_set (ps_set (i := 7) nd rfl (by first | exact Or.inl rfl | exact Or.inr rfl) (pd_lst pd_nil)))
    (pss_d_cons
    (ps_d_forR (.inl ⟨rfl, rfl⟩) hp rfl (pi_range1 (by rfl) g.f_range (pd_cons (kalB h__law_take (by omega) hr hgd tk (by rfl) (pd_cons (pd_name (pv 0)) (pd_cons (pd_c pe_int (fun _ => .int _)) pd_nil))) pd_nil)) (pg_name (i := 8) nd rfl (by first | exact Or.inl rfl | exact Or.inr rfl)) tg_name (pss_d_cons
      (ps_d_set (ps_set (i := 9) nd rfl (by first | exact Or.inl rfl | exact Or.inr rfl) (pd_ix ix_seq hr_ix (pd_lst (pd_cons (pd_c pe_non (fun _ => .non)) (pd_cons (pd_c pe_int (fun _ => .int _)) (pd_cons (pd_c pe_int (fun _ => .int _)) (pd_cons (pd_c pe_int (fun _ => .int _)) (pd_cons (pd_c pe_int (fun _ => .int _)) (pd_cons (pd_un un_neg hr_neg (pd_c pe_int (fun _ => .int _))) (pd_cons (pd_c pe_int (fun _ => .int _)) (pd_cons (pd_c pe_int (fun _ => .int _)) (pd_cons (pd_un un_neg hr_neg (pd_c pe_int (fun _ => .int _))) (pd_cons (pd_es (pd_op op_pow hr_pow (pd_c pe_int (fun _ => .int _)) (pd_c pe_int (fun _ => .int _)))) (pd_cons (pd_es (pd_op op_sub hr_sub (pd_c pe_int (fun _ => .int _)) (pd_op op_pow hr_pow (pd_c pe_int (fun _ => .int _)) (pd_c pe_int (fun _ => .int _))))) pd_nil)))))))))))) (kalB h__law_take (by omega) hr hgd tk (by rfl) (pd_cons (pd_name (pv 0)) (pd_cons (pd_c pe_int (fun _ => .int _)) pd_nil))) (fun _ _ => rfl))))
      (pss_d_cons
      (ps_d_if (pt_d_cmp (op_notInA hu) hr_notIn (pd_name (pv 9)) (pd_name (pv 7)) (by first | rfl | exact nomark _)) (pss_d_cons
        (ps_d_expr (pd_mut PySem.F.slot_list_append PySem.F.type_list_append mt_append ox_app (pv 7) (pd_cons (pd_es (pd_name (pv 9))) pd_nil)))
        (pss_d_nil)) (pss_d_nil))
      (pss_d_nil))))
    (pss_d_cons
    (ps_d_set (ps_set (i := 10) nd rfl (by first | exact Or.inl rfl | exact Or.inr rfl) (pd_op op_plus hr_add (pd_name (pv 2)) (pd_lst (pd_cons (pd_es (pd_name (pv 5))) pd_nil)))))
    (pss_d_cons
    (ps_d_setLc (i := 11) rfl nd rfl rfl (sw_true rfl rfl rfl (by decide +kernel)) (pd_es (pd_name (pv 7))) (blkOk_by (N := ["_law_pile_here", "_law_schema_here", "_law_used", "_law_depth", "_law_left", "_law_column", "_law_order", "_law_values", "_law_k", "_law_value_here", "_law_below", "_law_branches"]) (sc := defScope st__law_tree) (own := [("_law_value_here", 9)]) (by decide +kernel)) (fun _ _ _ _ _ => pg_name (i := 9) nd rfl (by first | exact Or.inl rfl | exact Or.inr rfl)) tg_name (by rfl) (by decide) (fun _ _ _ _ _ => pts_nil) tt_yes (fun _ _ _ _ _ => pd_es (pd_tup (pd_cons (pd_es (pd_name (pv 9))) (pd_cons (pd_es (kalB h__law_tree (by omega) hr hgd takes0 (by rfl) (pd_cons (pd_name (pv 0)) (pd_cons (pd_es (pd_name (pv 1))) (pd_cons (pd_es (pd_name (pv 10))) (pd_cons (pd_es (pd_op op_sub hr_sub (pd_name (pv 3)) (pd_c pe_int (fun _ => .int _)))) pd_nil)))))) pd_nil)))))
    (pss_d_cons
    (ps_d_ret (pd_tup (pd_cons (pd_es (pd_name (pv 5))) (pd_cons (pd_es (pd_name (pv 6))) (pd_cons (pd_es (pd_name (pv 11))) (pd_cons (pd_es (kalB h__law_tree (by omega) hr hgd tk (by rfl) (pd_cons (pd_name (pv 0)) (pd_cons (pd_es (pd_name (pv 1))) (pd_cons (pd_es (pd_name (pv 10))) (pd_cons (pd_es (pd_op op_sub hr_sub (pd_name (pv 3)) (pd_c pe_int (fun _ => .int _)))) pd_nil)))))) pd_nil))))))
    (pss_d_nil)))))))))
theorem has__law_tree (g : Gs K mg) (F : ∃ fd, FnP K "_law_tree" st__law_tree fd) (h__law_take : Has P w K mg base 1 "_law_take" ["_law_pile_here", "_law_size"] fn__law_take) : ∀ j : Nat, Has P w K mg base (1 + j) "_law_tree" ["_law_pile_here", "_law_schema_here", "_law_used", "_law_depth"] (fn__law_tree j)
  | 0 => by
    obtain ⟨fd, F⟩ := F
    exact ⟨fd, fnG_bad, F.bindsN fun _ _ _ _ _ _ us hl => (match us, hl with | [_, _, _, _], _ => rfl), F.kp, g.d__law_tree⟩
  | j + 1 => by
    have ih := has__law_tree g F h__law_take j
    obtain ⟨fd, F⟩ := F
    exact ⟨fd, ok__law_tree g F h__law_take ih, F.bindsN fun _ _ _ _ _ _ us hl => (match us, hl with | [_, _, _, _], _ => rfl), F.kp, g.d__law_tree⟩
abbrev st__law_compare : Stmt := top 41
theorem sc__law_compare : FnScope ["_law_rule", "_law_x", "_law_y", "_law_column", "_law_order", "_law_branches", "_law_other", "_law_value_here", "_law_tree_here"] ["_law_rule", "_law_x", "_law_y"] (defScope st__law_compare) := ⟨rfl, rfl, rfl, by decide +kernel, rfl, by decide +kernel, by decide +kernel⟩
theorem ok__law_compare (g : Gs K mg) {fd : FuncData} (F : FnP K "_law_compare" st__law_compare fd) {j : Nat} {f_rec : FD} (h__law_puts : Has P w K mg base 1 "_law_puts" ["_law_order", "_law_one", "_law_other"] fn__law_puts) (h__law_compare : Has P w K mg base (1 + j) "_law_compare" ["_law_rule", "_law_x", "_law_y"] f_rec) : FnG P w K mg base (1 + j + 1) (He.ga K "_law_compare") fd ["_law_rule", "_law_x", "_law_y"] (spD K 3 (fnD 9 (dn__law_compare f_rec))) := by
  refine fn_d (k := 1 + j) F sc__law_compare fun cdv A outer s0 H E hr hgd => ?_
  have tk : Takes (cxOf (L2.CX P w) P w K mg base ["_law_rule", "_law_x", "_law_y", "_law_column", "_law_order", "_law_branches", "_law_other", "_law_value_here", "_law_tree_here"] "_law_compare" (defScope st__law_compare) (He.ga K "_law_compare") cdv A outer s0 H E) (WX0 E) := takes_of rfl rfl rfl rfl
  have hp : PassesOwn (model P w) (cxOf (L2.CX P w) P w K mg base ["_law_rule", "_law_x", "_law_y", "_law_column", "_law_order", "_law_branches", "_law_other", "_law_value_here", "_law_tree_here"] "_law_compare" (defScope st__law_compare) (He.ga K "_law_compare") cdv A outer s0 H E).A (cxOf (L2.CX P w) P w K mg base ["_law_rule", "_law_x", "_law_y", "_law_column", "_law_order", "_law_branches", "_law_other", "_law_value_here", "_law_tree_here"] "_law_compare" (defScope st__law_compare) (He.ga K "_law_compare") cdv A outer s0 H E).env (cxOf (L2.CX P w) P w K mg base ["_law_rule", "_law_x", "_law_y", "_law_column", "_law_order", "_law_branches", "_law_other", "_law_value_here", "_law_tree_here"] "_law_compare" (defScope st__law_compare) (He.ga K "_law_compare") cdv A outer s0 H E).xe := passes_of rfl
  have nd : List.Nodup (α := Str) ["_law_rule", "_law_x", "_law_y", "_law_column", "_law_order", "_law_branches", "_law_other", "_law_value_here", "_law_tree_here"] := sc__law_compare.nd
  have hu : (A.deeper (envOfC "_law_compare" (defScope st__law_compare) s0.heap.objs.size (He.ga K "_law_compare") cdv)).units + 65 < cLine := by have := hr.un; omega
  have hu4 : (A.deeper (envOfC "_law_compare" (defScope st__law_compare) s0.heap.objs.size (He.ga K "_law_compare") cdv)).units + 64 < cLine := by omega
  exact pss_d_cons
    (ps_d_if (pt_d_val (pd_isi (by rfl) g.f_isinstance (.ty _) ck_list (pd_name (pv 0)) (pe_bltn (by rfl) g.f_list bt_list rfl))) (pss_d_cons
      (ps_d_for hp rfl (pd_es (pd_name (pv 0))) (pg_tup rfl (pgs_cons (pg_name (i := 3) nd rfl (by first | exact Or.inl rfl | exact Or.inr rfl)) (pgs_cons (pg_name (i := 4) nd rfl (by first | exact Or.inl rfl | exact Or.inr rfl)) (pgs_nil)))) (tg_tup (js := [3, 4]) rfl) (pss_d_cons
        (ps_d_if (pt_d_cmp (op_neA hu4) hr_ne (pd_ix ix_seq hr_ix (pd_name (pv 1)) (pd_name (pv 3)) (fun _ _ => rfl)) (pd_ix ix_seq hr_ix (pd_name (pv 2)) (pd_name (pv 3)) (fun _ _ => rfl)) (by first | rfl | exact nomark _)) (pss_d_cons
          (ps_d_ret (pd_ix ix_seq hr_ix (pd_lst (pd_cons (pd_c pe_int (fun _ => .int _)) (pd_cons (pd_un un_neg hr_neg (pd_c pe_int (fun _ => .int _))) pd_nil))) (pd_callTy call_int1 hr_int (by rfl) g.f_int bt_int (pd_cons (kal h__law_puts (by omega) hr hgd tk (by rfl) (pd_cons (pd_es (pd_name (pv 4))) (pd_cons (pd_es (pd_ix ix_seq hr_ix (pd_name (pv 1)) (pd_name (pv 3)) (fun _ _ => rfl))) (pd_cons (pd_es (pd_ix ix_seq hr_ix (pd_name (pv 2)) (pd_name (pv 3)) (fun _ _ => rfl))) pd_nil)))) pd_nil)) (fun _ _ => rfl)))
          (pss_d_nil)) (pss_d_nil))
        (pss_d_nil)))
      (pss_d_cons
      (ps_d_ret (pd_c pe_int (fun _ => .int _)))
      (pss_d_nil))) (pss_d_nil))
    (pss_d_cons
    (ps_d_if (pt_d_isN (pd_name (pv 0))) (pss_d_cons
      (ps_d_ret (pd_c pe_int (fun _ => .int _)))
      (pss_d_nil)) (pss_d_nil))
    (pss_d_cons
    (ps_d_tup (tg_tup (js := [3, 4, 5, 6]) rfl) (ps_asg (pd_es (pd_name (pv 0))) (pg_tup rfl (pgs_cons (pg_name (i := 3) nd rfl (by first | exact Or.inl rfl | exact Or.inr rfl)) (pgs_cons (pg_name (i := 4) nd rfl (by first | exact Or.inl rfl | exact Or.inr rfl)) (pgs_cons (pg_name (i := 5) nd rfl (by first | exact Or.inl rfl | exact Or.inr rfl)) (pgs_cons (pg_name (i := 6) nd rfl (by first | exact Or.inl rfl | exact Or.inr rfl)) (pgs_nil))))))))
    (pss_d_cons
    (ps_d_if (pt_d_cmp (op_neA hu4) hr_ne (pd_ix ix_seq hr_ix (pd_name (pv 1)) (pd_name (pv 3)) (fun _ _ => rfl)) (pd_ix ix_seq hr_ix (pd_name (pv 2)) (pd_name (pv 3)) (fun _ _ => rfl)) (by first | rfl | exact nomark _)) (pss_d_cons
      (ps_d_ret (pd_ix ix_seq hr_ix (pd_lst (pd_cons (pd_c pe_int (fun _ => .int _)) (pd_cons (pd_un un_neg hr_neg (pd_c pe_int (fun _ => .int _))) pd_nil))) (pd_callTy call_int1 hr_int (by rfl) g.f_int bt_int (pd_cons (kal h__law_puts (by omega) hr hgd tk (by rfl) (pd_cons (pd_es (pd_name (pv 4))) (pd_cons (pd_es (pd_ix ix_seq hr_ix (pd_name (pv 1)) (pd_name (pv 3)) (fun _ _ => rfl))) (pd_cons (pd_es (pd_ix ix_seq hr_ix (pd_name (pv 2)) (pd_name (pv 3)) (fun _ _ => rfl))) pd_nil)))) pd_nil)) (fun _ _ => rfl)))
      (pss_d_nil)) (pss_d_nil))
    (pss_d_cons
    (ps_d_for hp rfl (pd_es (pd_name (pv 5))) (pg_tup rfl (pgs_cons (pg_name (i := 7) nd rfl (by first | exact Or.inl rfl | exact Or.inr rfl)) (pgs_cons (pg_name (i := 8) nd rfl (by first | exact Or.inl rfl | exact Or.inr rfl)) (pgs_nil)))) (tg_tup (js := [7, 8]) rfl) (pss_d_cons
      (ps_d_if (pt_d_cmp (op_eqA hu4) hr_eq (pd_name (pv 7)) (pd_ix ix_seq hr_ix (pd_name (pv 1)) (pd_name (pv 3)) (fun _ _ => rfl)) (by first | rfl | exact nomark _)) (pss_d_cons
        (ps_d_ret (kal h__law_compare (by omega) hr hgd tk (by rfl) (pd_cons (pd_es (pd_name (pv 8))) (pd_cons (pd_es (pd_name (pv 1))) (pd_cons (pd_es (pd_name (pv 2))) pd_nil)))))
        (pss_d_nil)) (pss_d_nil))
      (pss_d_nil)))
    (pss_d_cons
    (ps_d_ret (kal h__law_compare (by omega) hr hgd tk (by rfl) (pd_cons (pd_es (pd_name (pv 6))) (pd_cons (pd_es (pd_name (pv 1))) (pd_cons (pd_es (pd_name (pv 2))) pd_nil)))))
    (pss_d_nil))))))
theorem has__law_compare (g : Gs K mg) (F : ∃ fd, FnP K "_law_compare" st__law_compare fd) (h__law_puts : Has P w K mg base 1 "_law_puts" ["_law_order", "_law_one", "_law_other"] fn__law_puts) : ∀ j : Nat, Has P w K mg base (1 + j) "_law_compare" ["_law_rule", "_law_x", "_law_y"] (fn__law_compare j)
  | 0 => by
    obtain ⟨fd, F⟩ := F
    exact ⟨fd, fnG_bad, F.bindsN fun _ _ _ _ _ _ us hl => (match us, hl with | [_, _, _], _ => rfl), F.kp, g.d__law_compare⟩
  | j + 1 => by
    have ih := has__law_compare g F h__law_puts j
    obtain ⟨fd, F⟩ := F
    exact ⟨fd, ok__law_compare g F h__law_puts ih, F.bindsN fun _ _ _ _ _ _ us hl => (match us, hl with | [_, _, _], _ => rfl), F.kp, g.d__law_compare⟩
abbrev st_check_schema : Stmt := top 10
theorem sc_check_schema : FnScope ["schema"] ["schema"] (defScope st_check_schema) := ⟨rfl, rfl, rfl, by decide +kernel, rfl, by decide +kernel, by decide +kernel⟩
theorem ok_check_schema (g : Gs K mg) {fd : FuncData} (F : FnP K "check_schema" st_check_schema fd) (h_is_schema : Has P w K mg base 2 "is_schema" ["thing"] fn_is_schema) : FnG P w K mg base 3 (He.ga K "check_schema") fd ["schema"] (spD K 1 fn_check_schema) := by
  refine fn_d (k := 2) F sc_check_schema fun cdv A outer s0 H E hr hgd => ?_
  have tk : Takes (cxOf (L2.CX P w) P w K mg base ["schema"] "check_schema" (defScope st_check_schema) (He.ga K "check_schema") cdv A outer s0 H E) (WX0 E) := takes_of rfl rfl rfl rfl
  have hp : PassesOwn (model P w) (cxOf (L2.CX P w) P w K mg base ["schema"] "check_schema" (defScope st_check_schema) (He.ga K "check_schema") cdv A outer s0 H E).A (cxOf (L2.CX P w) P w K mg base ["schema"] "check_schema" (defScope st_check_schema) (He.ga K "check_schema") cdv A outer s0 H E).env (cxOf (L2.CX P w) P w K mg base ["schema"] "check_schema" (defScope st_check_schema) (He.ga K "check_schema") cdv A outer s0 H E).xe := passes_of rfl
  have nd : List.Nodup (α := Str) ["schema"] := sc_check_schema.nd
  have hu : (A.deeper (envOfC "check_schema" (defScope st_check_schema) s0.heap.objs.size (He.ga K "check_schema") cdv)).units + 65 < cLine := by have := hr.un; omega
  have hu4 : (A.deeper (envOfC "check_schema" (defScope st_check_schema) s0.heap.objs.size (He.ga K "check_schema") cdv)).units + 64 < cLine := by omega
  exact pss_d_cons
    (ps_d_if (pt_d_not (pt_d_val (kal h_is_schema (by omega) hr hgd tk (by rfl) (pd_cons (pd_es (pd_name (pv 0))) pd_nil)))) (pss_d_cons
      (ps_d_raiseC (by rfl) tk g.x_NoSchema (by rfl))
      (pss_d_nil)) (pss_d_nil))
    (pss_d_nil)
theorem has_check_schema (g : Gs K mg) (F : ∃ fd, FnP K "check_schema" st_check_schema fd) (h_is_schema : Has P w K mg base 2 "is_schema" ["thing"] fn_is_schema) : Has P w K mg base 3 "check_schema" ["schema"] fn_check_schema := by
  obtain ⟨fd, F⟩ := F
  exact ⟨fd, ok_check_schema g F h_is_schema, F.bindsN fun _ _ _ _ _ _ us hl => (match us, hl with | [_], _ => rfl), F.kp, g.d_check_schema⟩
abbrev st_has_branches_form : Stmt := top 21
theorem sc_has_branches_form : FnScope ["thing", "branch"] ["thing"] (defScope st_has_branches_form) := ⟨rfl, rfl, rfl, by decide +kernel, rfl, by decide +kernel, by decide +kernel⟩
theorem ok_has_branches_form (g : Gs K mg) {fd : FuncData} (F : FnP K "has_branches_form" st_has_branches_form fd) (h_is_value : Has P w K mg base 2 "is_value" ["thing"] fn_is_value) : FnG P w K mg base 3 (He.ga K "has_branches_form") fd ["thing"] (spD K 1 fn_has_branches_form) := by
  refine fn_d (k := 2) F sc_has_branches_form fun cdv A outer s0 H E hr hgd => ?_
  have tk : Takes (cxOf (L2.CX P w) P w K mg base ["thing", "branch"] "has_branches_form" (defScope st_has_branches_form) (He.ga K "has_branches_form") cdv A outer s0 H E) (WX0 E) := takes_of rfl rfl rfl rfl
  have hp : PassesOwn (model P w) (cxOf (L2.CX P w) P w K mg base ["thing", "branch"] "has_branches_form" (defScope st_has_branches_form) (He.ga K "has_branches_form") cdv A outer s0 H E).A (cxOf (L2.CX P w) P w K mg base ["thing", "branch"] "has_branches_form" (defScope st_has_branches_form) (He.ga K "has_branches_form") cdv A outer s0 H E).env (cxOf (L2.CX P w) P w K mg base ["thing", "branch"] "has_branches_form" (defScope st_has_branches_form) (He.ga K "has_branches_form") cdv A outer s0 H E).xe := passes_of rfl
  have nd : List.Nodup (α := Str) ["thing", "branch"] := sc_has_branches_form.nd
  have hu : (A.deeper (envOfC "has_branches_form" (defScope st_has_branches_form) s0.heap.objs.size (He.ga K "has_branches_form") cdv)).units + 65 < cLine := by have := hr.un; omega
  have hu4 : (A.deeper (envOfC "has_branches_form" (defScope st_has_branches_form) s0.heap.objs.size (He.ga K "has_branches_form") cdv)).units + 64 < cLine := by omega
  exact pss_d_cons
    (ps_d_if (pt_d_not (pt_d_val (pd_isi (by rfl) g.f_isinstance (.ty _) ck_list (pd_name (pv 0)) (pe_bltn (by rfl) g.f_list bt_list rfl)))) (pss_d_cons
      (ps_d_ret (pd_c pe_bl (fun _ => .bl _)))
      (pss_d_nil)) (pss_d_nil))
    (pss_d_cons
    (ps_d_if (pt_d_not (pt_d_val (pd_callB (cr_all (by rfl)) hr_all (by rfl) g.f_all bt_all (pd_cons (pd_lc (by rfl) nd (pd_es (pd_name (pv 0))) (blkOk_by (N := ["thing", "branch"]) (sc := defScope st_has_branches_form) (own := [("branch", 1)]) (by decide +kernel)) (fun _ _ _ _ _ => pg_name (i := 1) nd rfl (by first | exact Or.inl rfl | exact Or.inr rfl)) tg_name (by rfl) (by decide) (fun _ _ _ _ _ => pts_nil) tt_yes (fun _ _ _ _ _ => pd_es (pd_and (pd_isi (by rfl) g.f_isinstance (.ty _) ck_tuple (pd_name (pv 1)) (pe_bltn (by rfl) g.f_tuple bt_tuple rfl)) (pd_and (pd_cmp (op_eqA hu4) hr_eq (pd_callB cr_lenA hr_len (by rfl) g.f_len bt_len (pd_cons (pd_name (pv 1)) pd_nil)) (pd_c pe_int (fun _ => .int _)) (by first | rfl | exact nomark _)) (pd_one (kal h_is_value (by omega) hr hgd takes0 (by rfl) (pd_cons (pd_es (pd_ix ix_seq hr_ix (pd_name (pv 1)) (pd_c pe_int (fun _ => .int _)) (fun _ _ => rfl))) pd_nil))))))) pd_nil)))) (pss_d_cons
      (ps_d_ret (pd_c pe_bl (fun _ => .bl _)))
      (pss_d_nil)) (pss_d_nil))
    (pss_d_cons
    (ps_d_ret (pd_cmp (op_eqA hu4) hr_eq (pd_lenKs (by rfl) g.f_len (by rfl) nd (pd_es (pd_name (pv 0))) (blkOk_by (N := ["thing", "branch"]) (sc := defScope st_has_branches_form) (own := [("branch", 1)]) (by decide +kernel)) (fun _ _ _ _ _ => pg_name (i := 1) nd rfl (by first | exact Or.inl rfl | exact Or.inr rfl)) tg_name (by rfl) (by decide) (fun _ _ _ _ _ => pd_es (pd_ix ix_seq hr_ix (pd_name (pv 1)) (pd_c pe_int (fun _ => .int _)) (fun _ _ => rfl)))) (pd_callB cr_lenA hr_len (by rfl) g.f_len bt_len (pd_cons (pd_name (pv 0)) pd_nil)) (by first | rfl | exact nomark _)))
    (pss_d_nil)))
theorem has_has_branches_form (g : Gs K mg) (F : ∃ fd, FnP K "has_branches_form" st_has_branches_form fd) (h_is_value : Has P w K mg base 2 "is_value" ["thing"] fn_is_value) : Has P w K mg base 3 "has_branches_form" ["thing"] fn_has_branches_form := by
  obtain ⟨fd, F⟩ := F
  exact ⟨fd, ok_has_branches_form g F h_is_value, F.bindsN fun _ _ _ _ _ _ us hl => (match us, hl with | [_], _ => rfl), F.kp, g.d_has_branches_form⟩
abbrev st__law_row : Stmt := top 36
theorem sc__law_row : FnScope ["_law_pile_here", "_law_schema_here", "_law_wide", "_law_column"] ["_law_pile_here", "_law_schema_here", "_law_wide"] (defScope st__law_row) := ⟨rfl, rfl, rfl, by decide +kernel, rfl, by decide +kernel, by decide +kernel⟩
theorem ok__law_row (g : Gs K mg) {fd : FuncData} (F : FnP K "_law_row" st__law_row fd) (h__law_value : Has P w K mg base 2 "_law_value" ["_law_pile_here", "_law_wide"] fn__law_value) : FnG P w K mg base 3 (He.ga K "_law_row") fd ["_law_pile_here", "_law_schema_here", "_law_wide"] (spD K 3 fn__law_row) := by
  refine fn_d (k := 2) F sc__law_row fun cdv A outer s0 H E hr hgd => ?_
  have tk : Takes (cxOf (L2.CX P w) P w K mg base ["_law_pile_here", "_law_schema_here", "_law_wide", "_law_column"] "_law_row" (defScope st__law_row) (He.ga K "_law_row") cdv A outer s0 H E) (WX0 E) := takes_of rfl rfl rfl rfl
  have hp : PassesOwn (model P w) (cxOf (L2.CX P w) P w K mg base ["_law_pile_here", "_law_schema_here", "_law_wide", "_law_column"] "_law_row" (defScope st__law_row) (He.ga K "_law_row") cdv A outer s0 H E).A (cxOf (L2.CX P w) P w K mg base ["_law_pile_here", "_law_schema_here", "_law_wide", "_law_column"] "_law_row" (defScope st__law_row) (He.ga K "_law_row") cdv A outer s0 H E).env (cxOf (L2.CX P w) P w K mg base ["_law_pile_here", "_law_schema_here", "_law_wide", "_law_column"] "_law_row" (defScope st__law_row) (He.ga K "_law_row") cdv A outer s0 H E).xe := passes_of rfl
  have nd : List.Nodup (α := Str) ["_law_pile_here", "_law_schema_here", "_law_wide", "_law_column"] := sc__law_row.nd
  have hu : (A.deeper (envOfC "_law_row" (defScope st__law_row) s0.heap.objs.size (He.ga K "_law_row") cdv)).units + 65 < cLine := by have := hr.un; omega
  have hu4 : (A.deeper (envOfC "_law_row" (defScope st__law_row) s0.heap.objs.size (He.ga K "_law_row") cdv)).units + 64 < cLine := by omega
  exact pss_d_cons
    (ps_d_ret (pd_callTy call_tuple_of hr_tuple (by rfl) g.f_tuple bt_tuple (pd_cons (pd_lc (by rfl) nd (pd_es (pd_name (pv 1))) (blkOk_by (N := ["_law_pile_here", "_law_schema_here", "_law_wide", "_law_column"]) (sc := defScope st__law_row) (own := [("_law_column", 3)]) (by decide +kernel)) (fun _ _ _ _ _ => pg_name (i := 3) nd rfl (by first | exact Or.inl rfl | exact Or.inr rfl)) tg_name (by rfl) (by decide) (fun _ _ _ _ _ => pts_nil) tt_yes (fun _ _ _ _ _ => pd_es (kalB h__law_value (by omega) hr hgd takes0 (by rfl) (pd_cons (pd_name (pv 0)) (pd_cons (pd_es (pd_name (pv 2))) pd_nil))))) pd_nil)))
    (pss_d_nil)
theorem has__law_row (g : Gs K mg) (F : ∃ fd, FnP K "_law_row" st__law_row fd) (h__law_value : Has P w K mg base 2 "_law_value" ["_law_pile_here", "_law_wide"] fn__law_value) : Has P w K mg base 3 "_law_row" ["_law_pile_here", "_law_schema_here", "_law_wide"] fn__law_row := by
  obtain ⟨fd, F⟩ := F
  exact ⟨fd, ok__law_row g F h__law_value, F.bindsN fun _ _ _ _ _ _ us hl => (match us, hl with | [_, _, _], _ => rfl), F.kp, g.d__law_row⟩
abbrev st__law_flat : Stmt := top 38
theorem sc__law_flat : FnScope ["_law_pile_here", "_law_schema_here", "_law_columns", "_law_column"] ["_law_pile_here", "_law_schema_here"] (defScope st__law_flat) := ⟨rfl, rfl, rfl, by decide +kernel, rfl, by decide +kernel, by decide +kernel⟩
theorem ok__law_flat (g : Gs K mg) {fd : FuncData} (F : FnP K "_law_flat" st__law_flat fd) (h__law_order_of : Has P w K mg base 2 "_law_order_of" ["_law_pile_here", "_law_many"] fn__law_order_of) (h__law_take : Has P w K mg base 1 "_law_take" ["_law_pile_here", "_law_size"] fn__law_take) : FnG P w K mg base 3 (He.ga K "_law_flat") fd ["_law_pile_here", "_law_schema_here"] (spD K 2 fn__law_flat) := by
  refine fn_d (k := 2) F sc__law_flat fun cdv A outer s0 H E hr hgd => ?_
  have tk : Takes (cxOf (L2.CX P w) P w K mg base ["_law_pile_here", "_law_schema_here", "_law_columns", "_law_column"] "_law_flat" (defScope st__law_flat) (He.ga K "_law_flat") cdv A outer s0 H E) (WX0 E) := takes_of rfl rfl rfl rfl
  have hp : PassesOwn (model P w) (cxOf (L2.CX P w) P w K mg base ["_law_pile_here", "_law_schema_here", "_law_columns", "_law_column"] "_law_flat" (defScope st__law_flat) (He.ga K "_law_flat") cdv A outer s0 H E).A (cxOf (L2.CX P w) P w K mg base ["_law_pile_here", "_law_schema_here", "_law_columns", "_law_column"] "_law_flat" (defScope st__law_flat) (He.ga K "_law_flat") cdv A outer s0 H E).env (cxOf (L2.CX P w) P w K mg base ["_law_pile_here", "_law_schema_here", "_law_columns", "_law_column"] "_law_flat" (defScope st__law_flat) (He.ga K "_law_flat") cdv A outer s0 H E).xe := passes_of rfl
  have nd : List.Nodup (α := Str) ["_law_pile_here", "_law_schema_here", "_law_columns", "_law_column"] := sc__law_flat.nd
  have hu : (A.deeper (envOfC "_law_flat" (defScope st__law_flat) s0.heap.objs.size (He.ga K "_law_flat") cdv)).units + 65 < cLine := by have := hr.un; omega
  have hu4 : (A.deeper (envOfC "_law_flat" (defScope st__law_flat) s0.heap.objs.size (He.ga K "_law_flat") cdv)).units + 64 < cLine := by omega
  exact pss_d_cons
    (ps_d_set (ps_set (i := 2) nd rfl (by first | exact Or.inl rfl | exact Or.inr rfl) (pd_slice (kalB h__law_order_of (by omega) hr hgd tk (by rfl) (pd_cons (pd_name (pv 0)) (pd_cons (pd_callB cr_lenA hr_len (by rfl) g.f_len bt_len (pd_cons (pd_name (pv 1)) pd_nil)) pd_nil))) .none po_none (.some _) (po_some (kalB h__law_take (by omega) hr hgd tk (by rfl) (pd_cons (pd_name (pv 0)) (pd_cons (pd_es (pd_op op_plus hr_add (pd_callB cr_lenA hr_len (by rfl) g.f_len bt_len (pd_cons (pd_name (pv 1)) pd_nil)) (pd_c pe_int (fun _ => .int _)))) pd_nil)))))))
    (pss_d_cons
    (ps_d_ret (pd_lc (by rfl) nd (pd_es (pd_name (pv 2))) (blkOk_by (N := ["_law_pile_here", "_law_schema_here", "_law_columns", "_law_column"]) (sc := defScope st__law_flat) (own := [("_law_column", 3)]) (by decide +kernel)) (fun _ _ _ _ _ => pg_name (i := 3) nd rfl (by first | exact Or.inl rfl | exact Or.inr rfl)) tg_name (by rfl) (by decide) (fun _ _ _ _ _ => pts_nil) tt_yes (fun _ _ _ _ _ => pd_es (pd_tup (pd_cons (pd_es (pd_name (pv 3))) (pd_cons (pd_es (pd_ix ix_seq hr_ix (pd_ix ix_seq hr_ix (pd_name (pv 1)) (pd_name (pv 3)) (fun _ _ => rfl)) (kalB h__law_take (by omega) hr hgd takes0 (by rfl) (pd_cons (pd_name (pv 0)) (pd_cons (pd_callB cr_lenA hr_len (by rfl) g.f_len bt_len (pd_cons (pd_ix ix_seq hr_ix (pd_name (pv 1)) (pd_name (pv 3)) (fun _ _ => rfl)) pd_nil)) pd_nil))) (fun _ _ => rfl))) pd_nil))))))
    (pss_d_nil))
theorem has__law_flat (g : Gs K mg) (F : ∃ fd, FnP K "_law_flat" st__law_flat fd) (h__law_order_of : Has P w K mg base 2 "_law_order_of" ["_law_pile_here", "_law_many"] fn__law_order_of) (h__law_take : Has P w K mg base 1 "_law_take" ["_law_pile_here", "_law_size"] fn__law_take) : Has P w K mg base 3 "_law_flat" ["_law_pile_here", "_law_schema_here"] fn__law_flat := by
  obtain ⟨fd, F⟩ := F
  exact ⟨fd, ok__law_flat g F h__law_order_of h__law_take, F.bindsN fun _ _ _ _ _ _ us hl => (match us, hl with | [_, _], _ => rfl), F.kp, g.d__law_flat⟩
abbrev st__law_near : Stmt := top 42
theorem sc__law_near : FnScope ["_law_pile_here", "_law_row_here", "_law_wide", "_law_found", "_law_k"] ["_law_pile_here", "_law_row_here", "_law_wide"] (defScope st__law_near) := ⟨rfl, rfl, rfl, by decide +kernel, rfl, by decide +kernel, by decide +kernel⟩
theorem ok__law_near (g : Gs K mg) {fd : FuncData} (F : FnP K "_law_near" st__law_near fd) (h__law_take : Has P w K mg base 1 "_law_take" ["_law_pile_here", "_law_size"] fn__law_take) (h__law_value : Has P w K mg base 2 "_law_value" ["_law_pile_here", "_law_wide"] fn__law_value) : FnG P w K mg base 3 (He.ga K "_law_near") fd ["_law_pile_here", "_law_row_here", "_law_wide"] (spD K 3 fn__law_near) := by
  refine fn_d (k := 2) F sc__law_near fun cdv A outer s0 H E hr hgd => ?_
  have tk : Takes (cxOf (L2.CX P w) P w K mg base ["_law_pile_here", "_law_row_here", "_law_wide", "_law_found", "_law_k"] "_law_near" (defScope st__law_near) (He.ga K "_law_near") cdv A outer s0 H E) (WX0 E) := takes_of rfl rfl rfl rfl
  have hp : PassesOwn (model P w) (cxOf (L2.CX P w) P w K mg base ["_law_pile_here", "_law_row_here", "_law_wide", "_law_found", "_law_k"] "_law_near" (defScope st__law_near) (He.ga K "_law_near") cdv A outer s0 H E).A (cxOf (L2.CX P w) P w K mg base ["_law_pile_here", "_law_row_here", "_law_wide", "_law_found", "_law_k"] "_law_near" (defScope st__law_near) (He.ga K "_law_near") cdv A outer s0 H E).env (cxOf (L2.CX P w) P w K mg base ["_law_pile_here", "_law_row_here", "_law_wide", "_law_found", "_law_k"] "_law_near" (defScope st__law_near) (He.ga K "_law_near") cdv A outer s0 H E).xe := passes_of rfl
  have nd : List.Nodup (α := Str) ["_law_pile_here", "_law_row_here", "_law_wide", "_law_found", "_law_k"] := sc__law_near.nd
  have hu : (A.deeper (envOfC "_law_near" (defScope st__law_near) s0.heap.objs.size (He.ga K "_law_near") cdv)).units + 65 < cLine := by have := hr.un; omega
  have hu4 : (A.deeper (envOfC "_law_near" (defScope st__law_near) s0.heap.objs.size (He.ga K "_law_near") cdv)).units + 64 < cLine := by omega
  exact pss_d_cons
    (ps_d_set (ps_set (i := 3) nd rfl (by first | exact Or.inl rfl | exact Or.inr rfl) (pd_callTy call_list_of hr_list (by rfl) g.f_list bt_list (pd_cons (pd_name (pv 1)) pd_nil))))
    (pss_d_cons
    (ps_d_forR (.inl ⟨rfl, rfl⟩) hp rfl (pi_range1 (by rfl) g.f_range (pd_cons (pd_callB cr_lenA hr_len (by rfl) g.f_len bt_len (pd_cons (pd_name (pv 1)) pd_nil)) pd_nil)) (pg_name (i := 4) nd rfl (by first | exact Or.inl rfl | exact Or.inr rfl)) tg_name (pss_d_cons
      (ps_d_if (pt_d_cmp (op_eqA hu4) hr_eq (kalB h__law_take (by omega) hr hgd tk (by rfl) (pd_cons (pd_name (pv 0)) (pd_cons (pd_c pe_int (fun _ => .int _)) pd_nil))) (pd_c pe_int (fun _ => .int _)) (by first | rfl | exact nomark _)) (pss_d_cons
        (ps_d_seti (j := 3) (x := "") (p0 := ⟨0, 0, 0, 0⟩) (ps_asg (pd_es (kalB h__law_value (by omega) hr hgd tk (by rfl) (pd_cons (pd_name (pv 0)) (pd_cons (pd_es (pd_name (pv 2))) pd_nil)))) (pg_sub (pv 3) (pd_name (pv 4)) set_list)))
        (pss_d_nil)) (pss_d_nil))
      (pss_d_nil)))
    (pss_d_cons
    (ps_d_ret (pd_callTy call_tuple_of hr_tuple (by rfl) g.f_tuple bt_tuple (pd_cons (pd_name (pv 3)) pd_nil)))
    (pss_d_nil)))
theorem has__law_near (g : Gs K mg) (F : ∃ fd, FnP K "_law_near" st__law_near fd) (h__law_take : Has P w K mg base 1 "_law_take" ["_law_pile_here", "_law_size"] fn__law_take) (h__law_value : Has P w K mg base 2 "_law_value" ["_law_pile_here", "_law_wide"] fn__law_value) : Has P w K mg base 3 "_law_near" ["_law_pile_here", "_law_row_here", "_law_wide"] fn__law_near := by
  obtain ⟨fd, F⟩ := F
  exact ⟨fd, ok__law_near g F h__law_take h__law_value, F.bindsN fun _ _ _ _ _ _ us hl => (match us, hl with | [_, _, _], _ => rfl), F.kp, g.d__law_near⟩
abbrev st_is_row : Stmt := top 14
theorem sc_is_row : FnScope ["schema", "thing", "value"] ["schema", "thing"] (defScope st_is_row) := ⟨rfl, rfl, rfl, by decide +kernel, rfl, by decide +kernel, by decide +kernel⟩
theorem ok_is_row (g : Gs K mg) {fd : FuncData} (F : FnP K "is_row" st_is_row fd) (h_check_schema : Has P w K mg base 3 "check_schema" ["schema"] fn_check_schema) (h_is_value : Has P w K mg base 2 "is_value" ["thing"] fn_is_value) : FnG P w K mg base 4 (He.ga K "is_row") fd ["schema", "thing"] (spD K 2 fn_is_row) := by
  refine fn_d (k := 3) F sc_is_row fun cdv A outer s0 H E hr hgd => ?_
  have tk : Takes (cxOf (L2.CX P w) P w K mg base ["schema", "thing", "value"] "is_row" (defScope st_is_row) (He.ga K "is_row") cdv A outer s0 H E) (WX0 E) := takes_of rfl rfl rfl rfl
  have hp : PassesOwn (model P w) (cxOf (L2.CX P w) P w K mg base ["schema", "thing", "value"] "is_row" (defScope st_is_row) (He.ga K "is_row") cdv A outer s0 H E).A (cxOf (L2.CX P w) P w K mg base ["schema", "thing", "value"] "is_row" (defScope st_is_row) (He.ga K "is_row") cdv A outer s0 H E).env (cxOf (L2.CX P w) P w K mg base ["schema", "thing", "value"] "is_row" (defScope st_is_row) (He.ga K "is_row") cdv A outer s0 H E).xe := passes_of rfl
  have nd : List.Nodup (α := Str) ["schema", "thing", "value"] := sc_is_row.nd
  have hu : (A.deeper (envOfC "is_row" (defScope st_is_row) s0.heap.objs.size (He.ga K "is_row") cdv)).units + 65 < cLine := by have := hr.un; omega
  have hu4 : (A.deeper (envOfC "is_row" (defScope st_is_row) s0.heap.objs.size (He.ga K "is_row") cdv)).units + 64 < cLine := by omega
  exact pss_d_cons
    (ps_d_expr (kal h_check_schema (by omega) hr hgd tk (by rfl) (pd_cons (pd_es (pd_name (pv 0))) pd_nil)))
    (pss_d_cons
    (ps_d_if ((pw_d_or (pt_d_not (pt_d_val (pd_isi (by rfl) g.f_isinstance (.ty _) ck_tuple (pd_name (pv 1)) (pe_bltn (by rfl) g.f_tuple bt_tuple rfl)))) (pw_d_or1 (pt_d_cmp (op_neA hu4) hr_ne (pd_callB cr_lenA hr_len (by rfl) g.f_len bt_len (pd_cons (pd_name (pv 1)) pd_nil)) (pd_callB cr_lenA hr_len (by rfl) g.f_len bt_len (pd_cons (pd_name (pv 0)) pd_nil)) (by first | rfl | exact nomark _)))).pt) (pss_d_cons
      (ps_d_ret (pd_c pe_bl (fun _ => .bl _)))
      (pss_d_nil)) (pss_d_nil))
    (pss_d_cons
    (ps_d_ret (pd_callB (cr_all (by rfl)) hr_all (by rfl) g.f_all bt_all (pd_cons (pd_lc (by rfl) nd (pd_es (pd_name (pv 1))) (blkOk_by (N := ["schema", "thing", "value"]) (sc := defScope st_is_row) (own := [("value", 2)]) (by decide +kernel)) (fun _ _ _ _ _ => pg_name (i := 2) nd rfl (by first | exact Or.inl rfl | exact Or.inr rfl)) tg_name (by rfl) (by decide) (fun _ _ _ _ _ => pts_nil) tt_yes (fun _ _ _ _ _ => pd_es (kal h_is_value (by omega) hr hgd takes0 (by rfl) (pd_cons (pd_es (pd_name (pv 2))) pd_nil)))) pd_nil)))
    (pss_d_nil)))
theorem has_is_row (g : Gs K mg) (F : ∃ fd, FnP K "is_row" st_is_row fd) (h_check_schema : Has P w K mg base 3 "check_schema" ["schema"] fn_check_schema) (h_is_value : Has P w K mg base 2 "is_value" ["thing"] fn_is_value) : Has P w K mg base 4 "is_row" ["schema", "thing"] fn_is_row := by
  obtain ⟨fd, F⟩ := F
  exact ⟨fd, ok_is_row g F h_check_schema h_is_value, F.bindsN fun _ _ _ _ _ _ us hl => (match us, hl with | [_, _], _ => rfl), F.kp, g.d_is_row⟩
abbrev st_is_step : Stmt := top 16
theorem sc_is_step : FnScope ["schema", "thing", "column", "order"] ["schema", "thing"] (defScope st_is_step) := ⟨rfl, rfl, rfl, by decide +kernel, rfl, by decide +kernel, by decide +kernel⟩
theorem ok_is_step (g : Gs K mg) {fd : FuncData} (F : FnP K "is_step" st_is_step fd) (h_check_schema : Has P w K mg base 3 "check_schema" ["schema"] fn_check_schema) (h_is_number_below : Has P w K mg base 2 "is_number_below" ["many", "thing"] fn_is_number_below) : FnG P w K mg base 4 (He.ga K "is_step") fd ["schema", "thing"] (spD K 2 fn_is_step) := by
  refine fn_d (k := 3) F sc_is_step fun cdv A outer s0 H E hr hgd => ?_
  have tk : Takes (cxOf (L2.CX P w) P w K mg base ["schema", "thing", "column", "order"] "is_step" (defScope st_is_step) (He.ga K "is_step") cdv A outer s0 H E) (WX0 E) := takes_of rfl rfl rfl rfl
  have hp : PassesOwn (model P w) (cxOf (L2.CX P w) P w K mg base ["schema", "thing", "column", "order"] "is_step" (defScope st_is_step) (He.ga K "is_step") cdv A outer s0 H E).A (cxOf (L2.CX P w) P w K mg base ["schema", "thing", "column", "order"] "is_step" (defScope st_is_step) (He.ga K "is_step") cdv A outer s0 H E).env (cxOf (L2.CX P w) P w K mg base ["schema", "thing", "column", "order"] "is_step" (defScope st_is_step) (He.ga K "is_step") cdv A outer s0 H E).xe := passes_of rfl
  have nd : List.Nodup (α := Str) ["schema", "thing", "column", "order"] := sc_is_step.nd
  have hu : (A.deeper (envOfC "is_step" (defScope st_is_step) s0.heap.objs.size (He.ga K "is_step") cdv)).units + 65 < cLine := by have := hr.un; omega
  have hu4 : (A.deeper (envOfC "is_step" (defScope st_is_step) s0.heap.objs.size (He.ga K "is_step") cdv)).units + 64 < cLine := by omega
  exact pss_d_cons
    (ps_d_expr (kal h_check_schema (by omega) hr hgd tk (by rfl) (pd_cons (pd_es (pd_name (pv 0))) pd_nil)))
    (pss_d_cons
    (ps_d_if ((pw_d_or (pt_d_not (pt_d_val (pd_isi (by rfl) g.f_isinstance (.ty _) ck_tuple (pd_name (pv 1)) (pe_bltn (by rfl) g.f_tuple bt_tuple rfl)))) (pw_d_or1 (pt_d_cmp (op_neA hu4) hr_ne (pd_callB cr_lenA hr_len (by rfl) g.f_len bt_len (pd_cons (pd_name (pv 1)) pd_nil)) (pd_c pe_int (fun _ => .int _)) (by first | rfl | exact nomark _)))).pt) (pss_d_cons
      (ps_d_ret (pd_c pe_bl (fun _ => .bl _)))
      (pss_d_nil)) (pss_d_nil))
    (pss_d_cons
    (ps_d_tup (tg_tup (js := [2, 3]) rfl) (ps_asg (pd_es (pd_name (pv 1))) (pg_tup rfl (pgs_cons (pg_name (i := 2) nd rfl (by first | exact Or.inl rfl | exact Or.inr rfl)) (pgs_cons (pg_name (i := 3) nd rfl (by first | exact Or.inl rfl | exact Or.inr rfl)) (pgs_nil))))))
    (pss_d_cons
    (ps_d_if (pt_d_not (pt_d_val (kal h_is_number_below (by omega) hr hgd tk (by rfl) (pd_cons (pd_callB cr_lenA hr_len (by rfl) g.f_len bt_len (pd_cons (pd_name (pv 0)) pd_nil)) (pd_cons (pd_es (pd_name (pv 2))) pd_nil))))) (pss_d_cons
      (ps_d_ret (pd_c pe_bl (fun _ => .bl _)))
      (pss_d_nil)) (pss_d_nil))
    (pss_d_cons
    (ps_d_ret (pd_cmp (op_inA hu) hr_in (pd_name (pv 3)) (pd_ix ix_seq hr_ix (pd_name (pv 0)) (pd_name (pv 2)) (fun _ _ => rfl)) (by first | rfl | exact nomark _)))
    (pss_d_nil)))))
theorem has_is_step (g : Gs K mg) (F : ∃ fd, FnP K "is_step" st_is_step fd) (h_check_schema : Has P w K mg base 3 "check_schema" ["schema"] fn_check_schema) (h_is_number_below : Has P w K mg base 2 "is_number_below" ["many", "thing"] fn_is_number_below) : Has P w K mg base 4 "is_step" ["schema", "thing"] fn_is_step := by
  obtain ⟨fd, F⟩ := F
  exact ⟨fd, ok_is_step g F h_check_schema h_is_number_below, F.bindsN fun _ _ _ _ _ _ us hl => (match us, hl with | [_, _], _ => rfl), F.kp, g.d_is_step⟩
abbrev st_check_row : Stmt := top 15
theorem sc_check_row : FnScope ["schema", "row"] ["schema", "row"] (defScope st_check_row) := ⟨rfl, rfl, rfl, by decide +kernel, rfl, by decide +kernel, by decide +kernel⟩
theorem ok_check_row (g : Gs K mg) {fd : FuncData} (F : FnP K "check_row" st_check_row fd) (h_is_row : Has P w K mg base 4 "is_row" ["schema", "thing"] fn_is_row) : FnG P w K mg base 5 (He.ga K "check_row") fd ["schema", "row"] (spD K 2 fn_check_row) := by
  refine fn_d (k := 4) F sc_check_row fun cdv A outer s0 H E hr hgd => ?_
  have tk : Takes (cxOf (L2.CX P w) P w K mg base ["schema", "row"] "check_row" (defScope st_check_row) (He.ga K "check_row") cdv A outer s0 H E) (WX0 E) := takes_of rfl rfl rfl rfl
  have hp : PassesOwn (model P w) (cxOf (L2.CX P w) P w K mg base ["schema", "row"] "check_row" (defScope st_check_row) (He.ga K "check_row") cdv A outer s0 H E).A (cxOf (L2.CX P w) P w K mg base ["schema", "row"] "check_row" (defScope st_check_row) (He.ga K "check_row") cdv A outer s0 H E).env (cxOf (L2.CX P w) P w K mg base ["schema", "row"] "check_row" (defScope st_check_row) (He.ga K "check_row") cdv A outer s0 H E).xe := passes_of rfl
  have nd : List.Nodup (α := Str) ["schema", "row"] := sc_check_row.nd
  have hu : (A.deeper (envOfC "check_row" (defScope st_check_row) s0.heap.objs.size (He.ga K "check_row") cdv)).units + 65 < cLine := by have := hr.un; omega
  have hu4 : (A.deeper (envOfC "check_row" (defScope st_check_row) s0.heap.objs.size (He.ga K "check_row") cdv)).units + 64 < cLine := by omega
  exact pss_d_cons
    (ps_d_if (pt_d_not (pt_d_val (kal h_is_row (by omega) hr hgd tk (by rfl) (pd_cons (pd_es (pd_name (pv 0))) (pd_cons (pd_es (pd_name (pv 1))) pd_nil))))) (pss_d_cons
      (ps_d_raiseC (by rfl) tk g.x_NoRow (by rfl))
      (pss_d_nil)) (pss_d_nil))
    (pss_d_nil)
theorem has_check_row (g : Gs K mg) (F : ∃ fd, FnP K "check_row" st_check_row fd) (h_is_row : Has P w K mg base 4 "is_row" ["schema", "thing"] fn_is_row) : Has P w K mg base 5 "check_row" ["schema", "row"] fn_check_row := by
  obtain ⟨fd, F⟩ := F
  exact ⟨fd, ok_check_row g F h_is_row, F.bindsN fun _ _ _ _ _ _ us hl => (match us, hl with | [_, _], _ => rfl), F.kp, g.d_check_row⟩
abbrev st_is_flat : Stmt := top 18
theorem sc_is_flat : FnScope ["schema", "thing", "step"] ["schema", "thing"] (defScope st_is_flat) := ⟨rfl, rfl, rfl, by decide +kernel, rfl, by decide +kernel, by decide +kernel⟩
theorem ok_is_flat (g : Gs K mg) {fd : FuncData} (F : FnP K "is_flat" st_is_flat fd) (h_check_schema : Has P w K mg base 3 "check_schema" ["schema"] fn_check_schema) (h_is_step : Has P w K mg base 4 "is_step" ["schema", "thing"] fn_is_step) : FnG P w K mg base 5 (He.ga K "is_flat") fd ["schema", "thing"] (spD K 2 fn_is_flat) := by
  refine fn_d (k := 4) F sc_is_flat fun cdv A outer s0 H E hr hgd => ?_
  have tk : Takes (cxOf (L2.CX P w) P w K mg base ["schema", "thing", "step"] "is_flat" (defScope st_is_flat) (He.ga K "is_flat") cdv A outer s0 H E) (WX0 E) := takes_of rfl rfl rfl rfl
  have hp : PassesOwn (model P w) (cxOf (L2.CX P w) P w K mg base ["schema", "thing", "step"] "is_flat" (defScope st_is_flat) (He.ga K "is_flat") cdv A outer s0 H E).A (cxOf (L2.CX P w) P w K mg base ["schema", "thing", "step"] "is_flat" (defScope st_is_flat) (He.ga K "is_flat") cdv A outer s0 H E).env (cxOf (L2.CX P w) P w K mg base ["schema", "thing", "step"] "is_flat" (defScope st_is_flat) (He.ga K "is_flat") cdv A outer s0 H E).xe := passes_of rfl
  have nd : List.Nodup (α := Str) ["schema", "thing", "step"] := sc_is_flat.nd
  have hu : (A.deeper (envOfC "is_flat" (defScope st_is_flat) s0.heap.objs.size (He.ga K "is_flat") cdv)).units + 65 < cLine := by have := hr.un; omega
  have hu4 : (A.deeper (envOfC "is_flat" (defScope st_is_flat) s0.heap.objs.size (He.ga K "is_flat") cdv)).units + 64 < cLine := by omega
  exact pss_d_cons
    (ps_d_expr (kal h_check_schema (by omega) hr hgd tk (by rfl) (pd_cons (pd_es (pd_name (pv 0))) pd_nil)))
    (pss_d_cons
    (ps_d_if (pt_d_not (pt_d_val (pd_isi (by rfl) g.f_isinstance (.ty _) ck_list (pd_name (pv 1)) (pe_bltn (by rfl) g.f_list bt_list rfl)))) (pss_d_cons
      (ps_d_ret (pd_c pe_bl (fun _ => .bl _)))
      (pss_d_nil)) (pss_d_nil))
    (pss_d_cons
    (ps_d_if (pt_d_not (pt_d_val (pd_callB (cr_all (by rfl)) hr_all (by rfl) g.f_all bt_all (pd_cons (pd_lc (by rfl) nd (pd_es (pd_name (pv 1))) (blkOk_by (N := ["schema", "thing", "step"]) (sc := defScope st_is_flat) (own := [("step", 2)]) (by decide +kernel)) (fun _ _ _ _ _ => pg_name (i := 2) nd rfl (by first | exact Or.inl rfl | exact Or.inr rfl)) tg_name (by rfl) (by decide) (fun _ _ _ _ _ => pts_nil) tt_yes (fun _ _ _ _ _ => pd_es (kal h_is_step (by omega) hr hgd takes0 (by rfl) (pd_cons (pd_es (pd_name (pv 0))) (pd_cons (pd_es (pd_name (pv 2))) pd_nil))))) pd_nil)))) (pss_d_cons
      (ps_d_ret (pd_c pe_bl (fun _ => .bl _)))
      (pss_d_nil)) (pss_d_nil))
    (pss_d_cons
    (ps_d_ret (pd_cmp (op_eqA hu4) hr_eq (pd_lenKs (by rfl) g.f_len (by rfl) nd (pd_es (pd_name (pv 1))) (blkOk_by (N := ["schema", "thing", "step"]) (sc := defScope st_is_flat) (own := [("step", 2)]) (by decide +kernel)) (fun _ _ _ _ _ => pg_name (i := 2) nd rfl (by first | exact Or.inl rfl | exact Or.inr rfl)) tg_name (by rfl) (by decide) (fun _ _ _ _ _ => pd_es (pd_ix ix_seq hr_ix (pd_name (pv 2)) (pd_c pe_int (fun _ => .int _)) (fun _ _ => rfl)))) (pd_callB cr_lenA hr_len (by rfl) g.f_len bt_len (pd_cons (pd_name (pv 1)) pd_nil)) (by first | rfl | exact nomark _)))
    (pss_d_nil))))
theorem has_is_flat (g : Gs K mg) (F : ∃ fd, FnP K "is_flat" st_is_flat fd) (h_check_schema : Has P w K mg base 3 "check_schema" ["schema"] fn_check_schema) (h_is_step : Has P w K mg base 4 "is_step" ["schema", "thing"] fn_is_step) : Has P w K mg base 5 "is_flat" ["schema", "thing"] fn_is_flat := by
  obtain ⟨fd, F⟩ := F
  exact ⟨fd, ok_is_flat g F h_check_schema h_is_step, F.bindsN fun _ _ _ _ _ _ us hl => (match us, hl with | [_, _], _ => rfl), F.kp, g.d_is_flat⟩
abbrev st_is_tree_below : Stmt := top 20
theorem sc_is_tree_below : FnScope ["schema", "thing", "above", "column", "order", "branches", "other", "here", "below", "branch", "part"] ["schema", "thing", "above"] (defScope st_is_tree_below) := ⟨rfl, rfl, rfl, by decide +kernel, rfl, by decide +kernel, by decide +kernel⟩
theorem ok_is_tree_below (g : Gs K mg) {fd : FuncData} (F : FnP K "is_tree_below" st_is_tree_below fd) {j : Nat} {f_rec : FD} (h_has_branches_form : Has P w K mg base 3 "has_branches_form" ["thing"] fn_has_branches_form) (h_is_step : Has P w K mg base 4 "is_step" ["schema", "thing"] fn_is_step) (h_is_tree_below : Has P w K mg base (4 + j) "is_tree_below" ["schema", "thing", "above"] f_rec) : FnG P w K mg base (4 + j + 1) (He.ga K "is_tree_below") fd ["schema", "thing", "above"] (spD K 3 (fnD 11 (dn_is_tree_below f_rec))) := by
  refine fn_d (k := 4 + j) F sc_is_tree_below fun cdv A outer s0 H E hr hgd => ?_
  have tk : Takes (cxOf (L2.CX P w) P w K mg base ["schema", "thing", "above", "column", "order", "branches", "other", "here", "below", "branch", "part"] "is_tree_below" (defScope st_is_tree_below) (He.ga K "is_tree_below") cdv A outer s0 H E) (WX0 E) := takes_of rfl rfl rfl rfl
  have hp : PassesOwn (model P w) (cxOf (L2.CX P w) P w K mg base ["schema", "thing", "above", "column", "order", "branches", "other", "here", "below", "branch", "part"] "is_tree_below" (defScope st_is_tree_below) (He.ga K "is_tree_below") cdv A outer s0 H E).A (cxOf (L2.CX P w) P w K mg base ["schema", "thing", "above", "column", "order", "branches", "other", "here", "below", "branch", "part"] "is_tree_below" (defScope st_is_tree_below) (He.ga K "is_tree_below") cdv A outer s0 H E).env (cxOf (L2.CX P w) P w K mg base ["schema", "thing", "above", "column", "order", "branches", "other", "here", "below", "branch", "part"] "is_tree_below" (defScope st_is_tree_below) (He.ga K "is_tree_below") cdv A outer s0 H E).xe := passes_of rfl
  have nd : List.Nodup (α := Str) ["schema", "thing", "above", "column", "order", "branches", "other", "here", "below", "branch", "part"] := sc_is_tree_below.nd
  have hu : (A.deeper (envOfC "is_tree_below" (defScope st_is_tree_below) s0.heap.objs.size (He.ga K "is_tree_below") cdv)).units + 65 < cLine := by have := hr.un; omega
  have hu4 : (A.deeper (envOfC "is_tree_below" (defScope st_is_tree_below) s0.heap.objs.size (He.ga K "is_tree_below") cdv)).units + 64 < cLine := by omega
  exact pss_d_cons
    (ps_d_if (pt_d_isN (pd_name (pv 1))) (pss_d_cons
      (ps_d_ret (pd_c pe_bl (fun _ => .bl _)))
      (pss_d_nil)) (pss_d_nil))
    (pss_d_cons
    (ps_d_if ((pw_d_or (pt_d_not (pt_d_val (pd_isi (by rfl) g.f_isinstance (.ty _) ck_tuple (pd_name (pv 1)) (pe_bltn (by rfl) g.f_tuple bt_tuple rfl)))) (pw_d_or1 (pt_d_cmp (op_neA hu4) hr_ne (pd_callB cr_lenA hr_len (by rfl) g.f_len bt_len (pd_cons (pd_name (pv 1)) pd_nil)) (pd_c pe_int (fun _ => .int _)) (by first | rfl | exact nomark _)))).pt) (pss_d_cons
      (ps_d_ret (pd_c pe_bl (fun _ => .bl _)))
      (pss_d_nil)) (pss_d_nil))
    (pss_d_cons
    (ps_d_tup (tg_tup (js := [3, 4, 5, 6]) rfl) (ps_asg (pd_es (pd_name (pv 1))) (pg_tup rfl (pgs_cons (pg_name (i := 3) nd rfl (by first | exact Or.inl rfl | exact Or.inr rfl)) (pgs_cons (pg_name (i := 4) nd rfl (by first | exact Or.inl rfl | exact Or.inr rfl)) (pgs_cons (pg_name (i := 5) nd rfl (by first | exact Or.inl rfl | exact Or.inr rfl)) (pgs_cons (pg_name (i := 6) nd rfl (by first | exact Or.inl rfl | exact Or.inr rfl)) (pgs_nil))))))))
    (pss_d_cons
    (ps_d_if ((pw_d_or (pt_d_not (pt_d_val (kal h_is_step (by omega) hr hgd tk (by rfl) (pd_cons (pd_es (pd_name (pv 0))) (pd_cons (pd_tup (pd_cons (pd_es (pd_name (pv 3))) (pd_cons (pd_es (pd_name (pv 4))) pd_nil))) pd_nil))))) (pw_d_or1 (pt_d_cmp (op_inA hu) hr_in (pd_name (pv 3)) (pd_name (pv 2)) (by first | rfl | exact nomark _)))).pt) (pss_d_cons
      (ps_d_ret (pd_c pe_bl (fun _ => .bl _)))
      (pss_d_nil)) (pss_d_nil))
    (pss_d_cons
    (ps_d_if (pt_d_not (pt_d_val (kal h_has_branches_form (by omega) hr hgd tk (by rfl) (pd_cons (pd_es (pd_name (pv 5))) pd_nil)))) (pss_d_cons
      (ps_d_ret (pd_c pe_bl (fun _ => .bl _)))
      (pss_d_nil)) (pss_d_nil))
    (pss_d_cons
    (ps_d_set (ps_set (i := 7) nd rfl (by first | exact Or.inl rfl | exact Or.inr rfl) (pd_op op_plus hr_add (pd_name (pv 2)) (pd_tup (pd_cons (pd_es (pd_name (pv 3))) pd_nil)))))
    (pss_d_cons
    (ps_d_set (ps_set (i := 8) nd rfl (by first | exact Or.inl rfl | exact Or.inr rfl) (pd_op op_plus hr_add (pd_lc (by rfl) nd (pd_es (pd_name (pv 5))) (blkOk_by (N := ["schema", "thing", "above", "column", "order", "branches", "other", "here", "below", "branch", "part"]) (sc := defScope st_is_tree_below) (own := [("branch", 9)]) (by decide +kernel)) (fun _ _ _ _ _ => pg_name (i := 9) nd rfl (by first | exact Or.inl rfl | exact Or.inr rfl)) tg_name (by rfl) (by decide) (fun _ _ _ _ _ => pts_nil) tt_yes (fun _ _ _ _ _ => pd_es (pd_ix ix_seq hr_ix (pd_name (pv 9)) (pd_c pe_int (fun _ => .int _)) (fun _ _ => rfl)))) (pd_lst (pd_cons (pd_es (pd_name (pv 6))) pd_nil)))))
    (pss_d_cons
    (ps_d_ret (pd_callB (cr_all (by rfl)) hr_all (by rfl) g.f_all bt_all (pd_cons (pd_lc (by rfl) nd (pd_es (pd_name (pv 8))) (blkOk_by (N := ["schema", "thing", "above", "column", "order", "branches", "other", "here", "below", "branch", "part"]) (sc := defScope st_is_tree_below) (own := [("part", 10)]) (by decide +kernel)) (fun _ _ _ _ _ => pg_name (i := 10) nd rfl (by first | exact Or.inl rfl | exact Or.inr rfl)) tg_name (by rfl) (by decide) (fun _ _ _ _ _ => pts_nil) tt_yes (fun _ _ _ _ _ => pd_es (kal h_is_tree_below (by omega) hr hgd takes0 (by rfl) (pd_cons (pd_es (pd_name (pv 0))) (pd_cons (pd_es (pd_name (pv 10))) (pd_cons (pd_es (pd_name (pv 7))) pd_nil)))))) pd_nil)))
    (pss_d_nil))))))))
theorem has_is_tree_below (g : Gs K mg) (F : ∃ fd, FnP K "is_tree_below" st_is_tree_below fd) (h_has_branches_form : Has P w K mg base 3 "has_branches_form" ["thing"] fn_has_branches_form) (h_is_step : Has P w K mg base 4 "is_step" ["schema", "thing"] fn_is_step) : ∀ j : Nat, Has P w K mg base (4 + j) "is_tree_below" ["schema", "thing", "above"] (fn_is_tree_below j)
  | 0 => by
    obtain ⟨fd, F⟩ := F
    exact ⟨fd, fnG_bad, F.bindsN fun _ _ _ _ _ _ us hl => (match us, hl with | [_, _, _], _ => rfl), F.kp, g.d_is_tree_below⟩
  | j + 1 => by
    have ih := has_is_tree_below g F h_has_branches_form h_is_step j
    obtain ⟨fd, F⟩ := F
    exact ⟨fd, ok_is_tree_below g F h_has_branches_form h_is_step ih, F.bindsN fun _ _ _ _ _ _ us hl => (match us, hl with | [_, _, _], _ => rfl), F.kp, g.d_is_tree_below⟩
abbrev st_rule_says : Stmt := top 25
theorem sc_rule_says : FnScope ["rule", "x", "y"] ["rule", "x", "y"] (defScope st_rule_says) := ⟨rfl, rfl, rfl, by decide +kernel, rfl, by decide +kernel, by decide +kernel⟩
theorem ok_rule_says (g : Gs K mg) {fd : FuncData} (F : FnP K "rule_says" st_rule_says fd) (h_tree_says : Has P w K mg base 9 "tree_says" ["tree", "x", "y"] (fn_tree_says 8)) (h_flat_says : Has P w K mg base 2 "flat_says" ["flat", "x", "y"] fn_flat_says) : FnG P w K mg base 11 (He.ga K "rule_says") fd ["rule", "x", "y"] (spD K 3 fn_rule_says) := by
  refine fn_d (k := 10) F sc_rule_says fun cdv A outer s0 H E hr hgd => ?_
  have tk : Takes (cxOf (L2.CX P w) P w K mg base ["rule", "x", "y"] "rule_says" (defScope st_rule_says) (He.ga K "rule_says") cdv A outer s0 H E) (WX0 E) := takes_of rfl rfl rfl rfl
  have hp : PassesOwn (model P w) (cxOf (L2.CX P w) P w K mg base ["rule", "x", "y"] "rule_says" (defScope st_rule_says) (He.ga K "rule_says") cdv A outer s0 H E).A (cxOf (L2.CX P w) P w K mg base ["rule", "x", "y"] "rule_says" (defScope st_rule_says) (He.ga K "rule_says") cdv A outer s0 H E).env (cxOf (L2.CX P w) P w K mg base ["rule", "x", "y"] "rule_says" (defScope st_rule_says) (He.ga K "rule_says") cdv A outer s0 H E).xe := passes_of rfl
  have nd : List.Nodup (α := Str) ["rule", "x", "y"] := sc_rule_says.nd
  have hu : (A.deeper (envOfC "rule_says" (defScope st_rule_says) s0.heap.objs.size (He.ga K "rule_says") cdv)).units + 65 < cLine := by have := hr.un; omega
  have hu4 : (A.deeper (envOfC "rule_says" (defScope st_rule_says) s0.heap.objs.size (He.ga K "rule_says") cdv)).units + 64 < cLine := by omega
  exact pss_d_cons
    (ps_d_if (pt_d_val (pd_isi (by rfl) g.f_isinstance (.ty _) ck_list (pd_name (pv 0)) (pe_bltn (by rfl) g.f_list bt_list rfl))) (pss_d_cons
      (ps_d_ret (kal h_flat_says (by omega) hr hgd tk (by rfl) (pd_cons (pd_es (pd_name (pv 0))) (pd_cons (pd_es (pd_name (pv 1))) (pd_cons (pd_es (pd_name (pv 2))) pd_nil)))))
      (pss_d_nil)) (pss_d_nil))
    (pss_d_cons
    (ps_d_ret (kal h_tree_says (by omega) hr hgd tk (by rfl) (pd_cons (pd_es (pd_name (pv 0))) (pd_cons (pd_es (pd_name (pv 1))) (pd_cons (pd_es (pd_name (pv 2))) pd_nil)))))
    (pss_d_nil))
theorem has_rule_says (g : Gs K mg) (F : ∃ fd, FnP K "rule_says" st_rule_says fd) (h_tree_says : Has P w K mg base 9 "tree_says" ["tree", "x", "y"] (fn_tree_says 8)) (h_flat_says : Has P w K mg base 2 "flat_says" ["flat", "x", "y"] fn_flat_says) : Has P w K mg base 11 "rule_says" ["rule", "x", "y"] fn_rule_says := by
  obtain ⟨fd, F⟩ := F
  exact ⟨fd, ok_rule_says g F h_tree_says h_flat_says, F.bindsN fun _ _ _ _ _ _ us hl => (match us, hl with | [_, _, _], _ => rfl), F.kp, g.d_rule_says⟩
abbrev st_is_tree : Stmt := top 19
theorem sc_is_tree : FnScope ["schema", "thing"] ["schema", "thing"] (defScope st_is_tree) := ⟨rfl, rfl, rfl, by decide +kernel, rfl, by decide +kernel, by decide +kernel⟩
theorem ok_is_tree (g : Gs K mg) {fd : FuncData} (F : FnP K "is_tree" st_is_tree fd) (h_check_schema : Has P w K mg base 3 "check_schema" ["schema"] fn_check_schema) (h_is_tree_below : Has P w K mg base 12 "is_tree_below" ["schema", "thing", "above"] (fn_is_tree_below 8)) : FnG P w K mg base 14 (He.ga K "is_tree") fd ["schema", "thing"] (spD K 2 fn_is_tree) := by
  refine fn_d (k := 13) F sc_is_tree fun cdv A outer s0 H E hr hgd => ?_
  have tk : Takes (cxOf (L2.CX P w) P w K mg base ["schema", "thing"] "is_tree" (defScope st_is_tree) (He.ga K "is_tree") cdv A outer s0 H E) (WX0 E) := takes_of rfl rfl rfl rfl
  have hp : PassesOwn (model P w) (cxOf (L2.CX P w) P w K mg base ["schema", "thing"] "is_tree" (defScope st_is_tree) (He.ga K "is_tree") cdv A outer s0 H E).A (cxOf (L2.CX P w) P w K mg base ["schema", "thing"] "is_tree" (defScope st_is_tree) (He.ga K "is_tree") cdv A outer s0 H E).env (cxOf (L2.CX P w) P w K mg base ["schema", "thing"] "is_tree" (defScope st_is_tree) (He.ga K "is_tree") cdv A outer s0 H E).xe := passes_of rfl
  have nd : List.Nodup (α := Str) ["schema", "thing"] := sc_is_tree.nd
  have hu : (A.deeper (envOfC "is_tree" (defScope st_is_tree) s0.heap.objs.size (He.ga K "is_tree") cdv)).units + 65 < cLine := by have := hr.un; omega
  have hu4 : (A.deeper (envOfC "is_tree" (defScope st_is_tree) s0.heap.objs.size (He.ga K "is_tree") cdv)).units + 64 < cLine := by omega
  exact pss_d_cons
    (ps_d_expr (kal h_check_schema (by omega) hr hgd tk (by rfl) (pd_cons (pd_es (pd_name (pv 0))) pd_nil)))
    (pss_d_cons
    (ps_d_ret (kal h_is_tree_below (by omega) hr hgd tk (by rfl) (pd_cons (pd_es (pd_name (pv 0))) (pd_cons (pd_es (pd_name (pv 1))) (pd_cons (pd_tup pd_nil) pd_nil)))))
    (pss_d_nil))
theorem has_is_tree (g : Gs K mg) (F : ∃ fd, FnP K "is_tree" st_is_tree fd) (h_check_schema : Has P w K mg base 3 "check_schema" ["schema"] fn_check_schema) (h_is_tree_below : Has P w K mg base 12 "is_tree_below" ["schema", "thing", "above"] (fn_is_tree_below 8)) : Has P w K mg base 14 "is_tree" ["schema", "thing"] fn_is_tree := by
  obtain ⟨fd, F⟩ := F
  exact ⟨fd, ok_is_tree g F h_check_schema h_is_tree_below, F.bindsN fun _ _ _ _ _ _ us hl => (match us, hl with | [_, _], _ => rfl), F.kp, g.d_is_tree⟩
abbrev st_is_rule : Stmt := top 22
theorem sc_is_rule : FnScope ["schema", "thing"] ["schema", "thing"] (defScope st_is_rule) := ⟨rfl, rfl, rfl, by decide +kernel, rfl, by decide +kernel, by decide +kernel⟩
theorem ok_is_rule (g : Gs K mg) {fd : FuncData} (F : FnP K "is_rule" st_is_rule fd) (h_is_flat : Has P w K mg base 5 "is_flat" ["schema", "thing"] fn_is_flat) (h_is_tree : Has P w K mg base 14 "is_tree" ["schema", "thing"] fn_is_tree) : FnG P w K mg base 15 (He.ga K "is_rule") fd ["schema", "thing"] (spD K 2 fn_is_rule) := by
  refine fn_d (k := 14) F sc_is_rule fun cdv A outer s0 H E hr hgd => ?_
  have tk : Takes (cxOf (L2.CX P w) P w K mg base ["schema", "thing"] "is_rule" (defScope st_is_rule) (He.ga K "is_rule") cdv A outer s0 H E) (WX0 E) := takes_of rfl rfl rfl rfl
  have hp : PassesOwn (model P w) (cxOf (L2.CX P w) P w K mg base ["schema", "thing"] "is_rule" (defScope st_is_rule) (He.ga K "is_rule") cdv A outer s0 H E).A (cxOf (L2.CX P w) P w K mg base ["schema", "thing"] "is_rule" (defScope st_is_rule) (He.ga K "is_rule") cdv A outer s0 H E).env (cxOf (L2.CX P w) P w K mg base ["schema", "thing"] "is_rule" (defScope st_is_rule) (He.ga K "is_rule") cdv A outer s0 H E).xe := passes_of rfl
  have nd : List.Nodup (α := Str) ["schema", "thing"] := sc_is_rule.nd
  have hu : (A.deeper (envOfC "is_rule" (defScope st_is_rule) s0.heap.objs.size (He.ga K "is_rule") cdv)).units + 65 < cLine := by have := hr.un; omega
  have hu4 : (A.deeper (envOfC "is_rule" (defScope st_is_rule) s0.heap.objs.size (He.ga K "is_rule") cdv)).units + 64 < cLine := by omega
  exact pss_d_cons
    (ps_d_ret (pd_or (kal h_is_flat (by omega) hr hgd tk (by rfl) (pd_cons (pd_es (pd_name (pv 0))) (pd_cons (pd_es (pd_name (pv 1))) pd_nil))) (pd_one (kal h_is_tree (by omega) hr hgd tk (by rfl) (pd_cons (pd_es (pd_name (pv 0))) (pd_cons (pd_es (pd_name (pv 1))) pd_nil))))))
    (pss_d_nil)
theorem has_is_rule (g : Gs K mg) (F : ∃ fd, FnP K "is_rule" st_is_rule fd) (h_is_flat : Has P w K mg base 5 "is_flat" ["schema", "thing"] fn_is_flat) (h_is_tree : Has P w K mg base 14 "is_tree" ["schema", "thing"] fn_is_tree) : Has P w K mg base 15 "is_rule" ["schema", "thing"] fn_is_rule := by
  obtain ⟨fd, F⟩ := F
  exact ⟨fd, ok_is_rule g F h_is_flat h_is_tree, F.bindsN fun _ _ _ _ _ _ us hl => (match us, hl with | [_, _], _ => rfl), F.kp, g.d_is_rule⟩
abbrev st_check_rule : Stmt := top 23
theorem sc_check_rule : FnScope ["schema", "rule"] ["schema", "rule"] (defScope st_check_rule) := ⟨rfl, rfl, rfl, by decide +kernel, rfl, by decide +kernel, by decide +kernel⟩
theorem ok_check_rule (g : Gs K mg) {fd : FuncData} (F : FnP K "check_rule" st_check_rule fd) (h_is_rule : Has P w K mg base 15 "is_rule" ["schema", "thing"] fn_is_rule) : FnG P w K mg base 16 (He.ga K "check_rule") fd ["schema", "rule"] (spD K 2 fn_check_rule) := by
  refine fn_d (k := 15) F sc_check_rule fun cdv A outer s0 H E hr hgd => ?_
  have tk : Takes (cxOf (L2.CX P w) P w K mg base ["schema", "rule"] "check_rule" (defScope st_check_rule) (He.ga K "check_rule") cdv A outer s0 H E) (WX0 E) := takes_of rfl rfl rfl rfl
  have hp : PassesOwn (model P w) (cxOf (L2.CX P w) P w K mg base ["schema", "rule"] "check_rule" (defScope st_check_rule) (He.ga K "check_rule") cdv A outer s0 H E).A (cxOf (L2.CX P w) P w K mg base ["schema", "rule"] "check_rule" (defScope st_check_rule) (He.ga K "check_rule") cdv A outer s0 H E).env (cxOf (L2.CX P w) P w K mg base ["schema", "rule"] "check_rule" (defScope st_check_rule) (He.ga K "check_rule") cdv A outer s0 H E).xe := passes_of rfl
  have nd : List.Nodup (α := Str) ["schema", "rule"] := sc_check_rule.nd
  have hu : (A.deeper (envOfC "check_rule" (defScope st_check_rule) s0.heap.objs.size (He.ga K "check_rule") cdv)).units + 65 < cLine := by have := hr.un; omega
  have hu4 : (A.deeper (envOfC "check_rule" (defScope st_check_rule) s0.heap.objs.size (He.ga K "check_rule") cdv)).units + 64 < cLine := by omega
  exact pss_d_cons
    (ps_d_if (pt_d_not (pt_d_val (kal h_is_rule (by omega) hr hgd tk (by rfl) (pd_cons (pd_es (pd_name (pv 0))) (pd_cons (pd_es (pd_name (pv 1))) pd_nil))))) (pss_d_cons
      (ps_d_raiseC (by rfl) tk g.x_NoRule (by rfl))
      (pss_d_nil)) (pss_d_nil))
    (pss_d_nil)
theorem has_check_rule (g : Gs K mg) (F : ∃ fd, FnP K "check_rule" st_check_rule fd) (h_is_rule : Has P w K mg base 15 "is_rule" ["schema", "thing"] fn_is_rule) : Has P w K mg base 16 "check_rule" ["schema", "rule"] fn_check_rule := by
  obtain ⟨fd, F⟩ := F
  exact ⟨fd, ok_check_rule g F h_is_rule, F.bindsN fun _ _ _ _ _ _ us hl => (match us, hl with | [_, _], _ => rfl), F.kp, g.d_check_rule⟩
abbrev st_compare : Stmt := top 24
theorem sc_compare : FnScope ["schema", "rule", "x", "y"] ["schema", "rule", "x", "y"] (defScope st_compare) := ⟨rfl, rfl, rfl, by decide +kernel, rfl, by decide +kernel, by decide +kernel⟩
theorem ok_compare (g : Gs K mg) {fd : FuncData} (F : FnP K "compare" st_compare fd) (h_check_rule : Has P w K mg base 16 "check_rule" ["schema", "rule"] fn_check_rule) (h_check_row : Has P w K mg base 5 "check_row" ["schema", "row"] fn_check_row) (h_rule_says : Has P w K mg base 11 "rule_says" ["rule", "x", "y"] fn_rule_says) : FnG P w K mg base 17 (He.ga K "compare") fd ["schema", "rule", "x", "y"] (spD K 4 fn_compare) := by
  refine fn_d (k := 16) F sc_compare fun cdv A outer s0 H E hr hgd => ?_
  have tk : Takes (cxOf (L2.CX P w) P w K mg base ["schema", "rule", "x", "y"] "compare" (defScope st_compare) (He.ga K "compare") cdv A outer s0 H E) (WX0 E) := takes_of rfl rfl rfl rfl
  have hp : PassesOwn (model P w) (cxOf (L2.CX P w) P w K mg base ["schema", "rule", "x", "y"] "compare" (defScope st_compare) (He.ga K "compare") cdv A outer s0 H E).A (cxOf (L2.CX P w) P w K mg base ["schema", "rule", "x", "y"] "compare" (defScope st_compare) (He.ga K "compare") cdv A outer s0 H E).env (cxOf (L2.CX P w) P w K mg base ["schema", "rule", "x", "y"] "compare" (defScope st_compare) (He.ga K "compare") cdv A outer s0 H E).xe := passes_of rfl
  have nd : List.Nodup (α := Str) ["schema", "rule", "x", "y"] := sc_compare.nd
  have hu : (A.deeper (envOfC "compare" (defScope st_compare) s0.heap.objs.size (He.ga K "compare") cdv)).units + 65 < cLine := by have := hr.un; omega
  have hu4 : (A.deeper (envOfC "compare" (defScope st_compare) s0.heap.objs.size (He.ga K "compare") cdv)).units + 64 < cLine := by omega
  exact pss_d_cons
    (ps_d_expr (kal h_check_rule (by omega) hr hgd tk (by rfl) (pd_cons (pd_es (pd_name (pv 0))) (pd_cons (pd_es (pd_name (pv 1))) pd_nil))))
    (pss_d_cons
    (ps_d_expr (kal h_check_row (by omega) hr hgd tk (by rfl) (pd_cons (pd_es (pd_name (pv 0))) (pd_cons (pd_es (pd_name (pv 2))) pd_nil))))
    (pss_d_cons
    (ps_d_expr (kal h_check_row (by omega) hr hgd tk (by rfl) (pd_cons (pd_es (pd_name (pv 0))) (pd_cons (pd_es (pd_name (pv 3))) pd_nil))))
    (pss_d_cons
    (ps_d_ret (kal h_rule_says (by omega) hr hgd tk (by rfl) (pd_cons (pd_es (pd_name (pv 1))) (pd_cons (pd_es (pd_name (pv 2))) (pd_cons (pd_es (pd_name (pv 3))) pd_nil)))))
    (pss_d_nil))))
theorem has_compare (g : Gs K mg) (F : ∃ fd, FnP K "compare" st_compare fd) (h_check_rule : Has P w K mg base 16 "check_rule" ["schema", "rule"] fn_check_rule) (h_check_row : Has P w K mg base 5 "check_row" ["schema", "row"] fn_check_row) (h_rule_says : Has P w K mg base 11 "rule_says" ["rule", "x", "y"] fn_rule_says) : Has P w K mg base 17 "compare" ["schema", "rule", "x", "y"] fn_compare := by
  obtain ⟨fd, F⟩ := F
  exact ⟨fd, ok_compare g F h_check_rule h_check_row h_rule_says, F.bindsN fun _ _ _ _ _ _ us hl => (match us, hl with | [_, _, _, _], _ => rfl), F.kp, g.d_compare⟩
abbrev st__law_good : Stmt := top 44
theorem sc__law_good : FnScope ["_law_schema_here", "_law_rule", "_law_x", "_law_y", "_law_kept", "_law_found"] ["_law_schema_here", "_law_rule", "_law_x", "_law_y"] (defScope st__law_good) := ⟨rfl, rfl, rfl, by decide +kernel, rfl, by decide +kernel, by decide +kernel⟩
theorem ok__law_good (g : Gs K mg) {fd : FuncData} (F : FnP K "_law_good" st__law_good fd) (h_compare : Has P w K mg base 17 "compare" ["schema", "rule", "x", "y"] fn_compare) (h__law_whole : Has P w K mg base 1 "_law_whole" ["_law_thing"] fn__law_whole) (h__law_compare : Has P w K mg base 9 "_law_compare" ["_law_rule", "_law_x", "_law_y"] (fn__law_compare 8)) : FnG P w K mg base 18 (He.ga K "_law_good") fd ["_law_schema_here", "_law_rule", "_law_x", "_law_y"] (spD K 4 fn__law_good) := by
  refine fn_d (k := 17) F sc__law_good fun cdv A outer s0 H E hr hgd => ?_
  have tk : Takes (cxOf (L2.CX P w) P w K mg base ["_law_schema_here", "_law_rule", "_law_x", "_law_y", "_law_kept", "_law_found"] "_law_good" (defScope st__law_good) (He.ga K "_law_good") cdv A outer s0 H E) (WX0 E) := takes_of rfl rfl rfl rfl
  have hp : PassesOwn (model P w) (cxOf (L2.CX P w) P w K mg base ["_law_schema_here", "_law_rule", "_law_x", "_law_y", "_law_kept", "_law_found"] "_law_good" (defScope st__law_good) (He.ga K "_law_good") cdv A outer s0 H E).A (cxOf (L2.CX P w) P w K mg base ["_law_schema_here", "_law_rule", "_law_x", "_law_y", "_law_kept", "_law_found"] "_law_good" (defScope st__law_good) (He.ga K "_law_good") cdv A outer s0 H E).env (cxOf (L2.CX P w) P w K mg base ["_law_schema_here", "_law_rule", "_law_x", "_law_y", "_law_kept", "_law_found"] "_law_good" (defScope st__law_good) (He.ga K "_law_good") cdv A outer s0 H E).xe := passes_of rfl
  have nd : List.Nodup (α := Str) ["_law_schema_here", "_law_rule", "_law_x", "_law_y", "_law_kept", "_law_found"] := sc__law_good.nd
  have hu : (A.deeper (envOfC "_law_good" (defScope st__law_good) s0.heap.objs.size (He.ga K "_law_good") cdv)).units + 65 < cLine := by have := hr.un; omega
  have hu4 : (A.deeper (envOfC "_law_good" (defScope st__law_good) s0.heap.objs.size (He.ga K "_law_good") cdv)).units + 64 < cLine := by omega
  exact pss_d_cons
    (ps_d_set (ps_set (i := 4) nd rfl (by first | exact Or.inl rfl | exact Or.inr rfl) (pd_callB (cr_repr hgd hu) hr_repr (by rfl) g.f_repr bt_repr (pd_cons (pd_lst (pd_cons (pd_es (pd_name (pv 0))) (pd_cons (pd_es (pd_name (pv 1))) (pd_cons (pd_es (pd_name (pv 2))) (pd_cons (pd_es (pd_name (pv 3))) pd_nil))))) pd_nil))))
    (pss_d_cons
    (ps_d_set (ps_set (i := 5) nd rfl (by first | exact Or.inl rfl | exact Or.inr rfl) (kal h_compare (by omega) hr hgd tk (by rfl) (pd_cons (pd_es (pd_name (pv 0))) (pd_cons (pd_es (pd_name (pv 1))) (pd_cons (pd_es (pd_name (pv 2))) (pd_cons (pd_es (pd_name (pv 3))) pd_nil)))))))
    (pss_d_cons
    (ps_d_if ((pw_d_or (pt_d_not (pt_d_val (kal h__law_whole (by omega) hr hgd tk (by rfl) (pd_cons (pd_es (pd_name (pv 5))) pd_nil)))) (pw_d_or (pt_d_cmp (op_neA hu4) hr_ne (pd_name (pv 5)) (kal h__law_compare (by omega) hr hgd tk (by rfl) (pd_cons (pd_es (pd_name (pv 1))) (pd_cons (pd_es (pd_name (pv 2))) (pd_cons (pd_es (pd_name (pv 3))) pd_nil)))) (by first | rfl | exact nomark _)) (pw_d_or1 (pt_d_cmp (op_neA hu4) hr_ne (pd_callB (cr_repr hgd hu) hr_repr (by rfl) g.f_repr bt_repr (pd_cons (pd_lst (pd_cons (pd_es (pd_name (pv 0))) (pd_cons (pd_es (pd_name (pv 1))) (pd_cons (pd_es (pd_name (pv 2))) (pd_cons (pd_es (pd_name (pv 3))) pd_nil))))) pd_nil)) (pd_name (pv 4)) (by first | rfl | exact nomark _))))).pt) (pss_d_cons
      (ps_d_ret (pd_c pe_bl (fun _ => .bl _)))
      (pss_d_nil)) (pss_d_nil))
    (pss_d_cons
    (ps_d_ret (pd_and (pd_cmp (op_eqA hu4) hr_eq (kal h_compare (by omega) hr hgd tk (by rfl) (pd_cons (pd_es (pd_name (pv 0))) (pd_cons (pd_es (pd_name (pv 1))) (pd_cons (pd_es (pd_name (pv 3))) (pd_cons (pd_es (pd_name (pv 2))) pd_nil))))) (pd_op op_sub hr_sub (pd_c pe_int (fun _ => .int _)) (pd_name (pv 5))) (by first | rfl | exact nomark _)) (pd_one (pd_cmp (op_eqA hu4) hr_eq (kal h_compare (by omega) hr hgd tk (by rfl) (pd_cons (pd_es (pd_name (pv 0))) (pd_cons (pd_es (pd_name (pv 1))) (pd_cons (pd_es (pd_name (pv 2))) (pd_cons (pd_es (pd_name (pv 2))) pd_nil))))) (pd_c pe_int (fun _ => .int _)) (by first | rfl | exact nomark _)))))
    (pss_d_nil))))
theorem has__law_good (g : Gs K mg) (F : ∃ fd, FnP K "_law_good" st__law_good fd) (h_compare : Has P w K mg base 17 "compare" ["schema", "rule", "x", "y"] fn_compare) (h__law_whole : Has P w K mg base 1 "_law_whole" ["_law_thing"] fn__law_whole) (h__law_compare : Has P w K mg base 9 "_law_compare" ["_law_rule", "_law_x", "_law_y"] (fn__law_compare 8)) : Has P w K mg base 18 "_law_good" ["_law_schema_here", "_law_rule", "_law_x", "_law_y"] fn__law_good := by
  obtain ⟨fd, F⟩ := F
  exact ⟨fd, ok__law_good g F h_compare h__law_whole h__law_compare, F.bindsN fun _ _ _ _ _ _ us hl => (match us, hl with | [_, _, _, _], _ => rfl), F.kp, g.d__law_good⟩
abbrev st_law : Stmt := top 45
theorem sc_law : FnScope ["_law_script", "_law_k", "_law_pile_here", "_law_schema_here", "_law_rules", "_law_turn", "_law_wide", "_law_x", "_law_y", "_law_rule"] ["_law_script"] (defScope st_law) := ⟨rfl, rfl, rfl, by decide +kernel, rfl, by decide +kernel, by decide +kernel⟩
theorem ok_law (g : Gs K mg) {fd : FuncData} (F : FnP K "law" st_law fd) (h__law_pile : Has P w K mg base 2 "_law_pile" ["_law_script", "_law_k"] fn__law_pile) (h__law_schema : Has P w K mg base 2 "_law_schema" ["_law_pile_here"] fn__law_schema) (h__law_flat : Has P w K mg base 3 "_law_flat" ["_law_pile_here", "_law_schema_here"] fn__law_flat) (h__law_tree : Has P w K mg base 9 "_law_tree" ["_law_pile_here", "_law_schema_here", "_law_used", "_law_depth"] (fn__law_tree 8)) (h__law_take : Has P w K mg base 1 "_law_take" ["_law_pile_here", "_law_size"] fn__law_take) (h__law_row : Has P w K mg base 3 "_law_row" ["_law_pile_here", "_law_schema_here", "_law_wide"] fn__law_row) (h__law_near : Has P w K mg base 3 "_law_near" ["_law_pile_here", "_law_row_here", "_law_wide"] fn__law_near) (h__law_good : Has P w K mg base 18 "_law_good" ["_law_schema_here", "_law_rule", "_law_x", "_law_y"] fn__law_good) : FnG P w K mg base 19 (He.ga K "law") fd ["_law_script"] (spD K 1 fn_law) := by
  refine fn_d (k := 18) F sc_law fun cdv A outer s0 H E hr hgd => ?_
  have tk : Takes (cxOf (L2.CX P w) P w K mg base ["_law_script", "_law_k", "_law_pile_here", "_law_schema_here", "_law_rules", "_law_turn", "_law_wide", "_law_x", "_law_y", "_law_rule"] "law" (defScope st_law) (He.ga K "law") cdv A outer s0 H E) (WX0 E) := takes_of rfl rfl rfl rfl
  have hp : PassesOwn (model P w) (cxOf (L2.CX P w) P w K mg base ["_law_script", "_law_k", "_law_pile_here", "_law_schema_here", "_law_rules", "_law_turn", "_law_wide", "_law_x", "_law_y", "_law_rule"] "law" (defScope st_law) (He.ga K "law") cdv A outer s0 H E).A (cxOf (L2.CX P w) P w K mg base ["_law_script", "_law_k", "_law_pile_here", "_law_schema_here", "_law_rules", "_law_turn", "_law_wide", "_law_x", "_law_y", "_law_rule"] "law" (defScope st_law) (He.ga K "law") cdv A outer s0 H E).env (cxOf (L2.CX P w) P w K mg base ["_law_script", "_law_k", "_law_pile_here", "_law_schema_here", "_law_rules", "_law_turn", "_law_wide", "_law_x", "_law_y", "_law_rule"] "law" (defScope st_law) (He.ga K "law") cdv A outer s0 H E).xe := passes_of rfl
  have nd : List.Nodup (α := Str) ["_law_script", "_law_k", "_law_pile_here", "_law_schema_here", "_law_rules", "_law_turn", "_law_wide", "_law_x", "_law_y", "_law_rule"] := sc_law.nd
  have hu : (A.deeper (envOfC "law" (defScope st_law) s0.heap.objs.size (He.ga K "law") cdv)).units + 65 < cLine := by have := hr.un; omega
  have hu4 : (A.deeper (envOfC "law" (defScope st_law) s0.heap.objs.size (He.ga K "law") cdv)).units + 64 < cLine := by omega
  exact pss_d_cons
    (ps_d_forR (.inl ⟨rfl, rfl⟩) hp rfl (pi_range1 (by rfl) g.f_range (pd_cons (pd_callB (call_max2 (by rfl)) hr_max (by rfl) g.f_max bt_max (pd_cons (pd_c pe_int (fun _ => .int _)) (pd_cons (pd_callB (call_min2 (by rfl)) hr_min (by rfl) g.f_min bt_min (pd_cons (pd_callB cr_lenA hr_len (by rfl) g.f_len bt_len (pd_cons (pd_name (pv 0)) pd_nil)) (pd_cons (pd_c pe_int (fun _ => .int _)) pd_nil))) pd_nil))) pd_nil)) (pg_name (i := 1) nd rfl (by first | exact Or.inl rfl | exact Or.inr rfl)) tg_name (pss_d_cons
      (ps_d_set (ps_set (i := 2) nd rfl (by first | exact Or.inl rfl | exact Or.inr rfl) (kal h__law_pile (by omega) hr hgd tk (by rfl) (pd_cons (pd_es (pd_name (pv 0))) (pd_cons (pd_es (pd_name (pv 1))) pd_nil)))))
      (pss_d_cons
      (ps_d_set (ps_set (i := 3) nd rfl (by first | exact Or.inl rfl | exact Or.inr rfl) (kalB h__law_schema (by omega) hr hgd tk (by rfl) (pd_cons (pd_name (pv 2)) pd_nil))))
      (pss_d_cons
      (ps_d_set (ps_set (i := 4) nd rfl (by first | exact Or.inl rfl | exact Or.inr rfl) (pd_lst (pd_cons (pd_es (kalB h__law_flat (by omega) hr hgd tk (by rfl) (pd_cons (pd_name (pv 2)) (pd_cons (pd_es (pd_name (pv 3))) pd_nil)))) (pd_cons (pd_es (kalB h__law_tree (by omega) hr hgd tk (by rfl) (pd_cons (pd_name (pv 2)) (pd_cons (pd_es (pd_name (pv 3))) (pd_cons (pd_es (pd_lst pd_nil)) (pd_cons (pd_c pe_int (fun _ => .int _)) pd_nil)))))) (pd_cons (pd_c pe_non (fun _ => .non)) (pd_cons (pd_es (pd_lst pd_nil)) pd_nil)))))))
      (pss_d_cons
      (ps_d_forR (.inl ⟨rfl, rfl⟩) hp rfl (pi_range1 (by rfl) g.f_range (pd_cons (pd_c pe_int (fun _ => .int _)) pd_nil)) (pg_name (i := 5) nd rfl (by first | exact Or.inl rfl | exact Or.inr rfl)) tg_name (pss_d_cons
        (ps_d_set (ps_set (i := 6) nd rfl (by first | exact Or.inl rfl | exact Or.inr rfl) (kalB h__law_take (by omega) hr hgd tk (by rfl) (pd_cons (pd_name (pv 2)) (pd_cons (pd_c pe_int (fun _ => .int _)) pd_nil)))))
        (pss_d_cons
        (ps_d_set (ps_set (i := 7) nd rfl (by first | exact Or.inl rfl | exact Or.inr rfl) (kalB h__law_row (by omega) hr hgd tk (by rfl) (pd_cons (pd_name (pv 2)) (pd_cons (pd_es (pd_name (pv 3))) (pd_cons (pd_es (pd_name (pv 6))) pd_nil))))))
        (pss_d_cons
        (ps_d_set (ps_set (i := 8) nd rfl (by first | exact Or.inl rfl | exact Or.inr rfl) (kalB h__law_near (by omega) hr hgd tk (by rfl) (pd_cons (pd_name (pv 2)) (pd_cons (pd_es (pd_name (pv 7))) (pd_cons (pd_es (pd_name (pv 6))) pd_nil))))))
        (pss_d_cons
        (ps_d_for hp rfl (pd_es (pd_name (pv 4))) (pg_name (i := 9) nd rfl (by first | exact Or.inl rfl | exact Or.inr rfl)) tg_name (pss_d_cons
          (ps_d_if (pt_d_not (pt_d_val (kal h__law_good (by omega) hr hgd tk (by rfl) (pd_cons (pd_es (pd_name (pv 3))) (pd_cons (pd_es (pd_name (pv 9))) (pd_cons (pd_es (pd_name (pv 7))) (pd_cons (pd_es (pd_name (pv 8))) pd_nil))))))) (pss_d_cons
            (ps_d_ret (pd_c pe_bl (fun _ => .bl _)))
            (pss_d_nil)) (pss_d_nil))
          (pss_d_nil)))
        (pss_d_nil))))))
      (pss_d_nil))))))
    (pss_d_cons
    (ps_d_ret (pd_c pe_bl (fun _ => .bl _)))
    (pss_d_nil))
theorem has_law (g : Gs K mg) (F : ∃ fd, FnP K "law" st_law fd) (h__law_pile : Has P w K mg base 2 "_law_pile" ["_law_script", "_law_k"] fn__law_pile) (h__law_schema : Has P w K mg base 2 "_law_schema" ["_law_pile_here"] fn__law_schema) (h__law_flat : Has P w K mg base 3 "_law_flat" ["_law_pile_here", "_law_schema_here"] fn__law_flat) (h__law_tree : Has P w K mg base 9 "_law_tree" ["_law_pile_here", "_law_schema_here", "_law_used", "_law_depth"] (fn__law_tree 8)) (h__law_take : Has P w K mg base 1 "_law_take" ["_law_pile_here", "_law_size"] fn__law_take) (h__law_row : Has P w K mg base 3 "_law_row" ["_law_pile_here", "_law_schema_here", "_law_wide"] fn__law_row) (h__law_near : Has P w K mg base 3 "_law_near" ["_law_pile_here", "_law_row_here", "_law_wide"] fn__law_near) (h__law_good : Has P w K mg base 18 "_law_good" ["_law_schema_here", "_law_rule", "_law_x", "_law_y"] fn__law_good) : Has P w K mg base 19 "law" ["_law_script"] fn_law := by
  obtain ⟨fd, F⟩ := F
  exact ⟨fd, ok_law g F h__law_pile h__law_schema h__law_flat h__law_tree h__law_take h__law_row h__law_near h__law_good, F.bindsN fun _ _ _ _ _ _ us hl => (match us, hl with | [_], _ => rfl), F.kp, g.d_law⟩
end
end Vf.Law
/-! What the law's helpers tell. -/
namespace Vf.Law
open PySem PySem.Spec L2
theorem take_ok (n s : Int) (h : 0 < s ∧ s < 1073741824) : fn__law_take [.brw [.int n], .d (.int s)] = .ok (.d (.int (n % s))) [.brw [.int (n / s)], .d (.int s)] := by
  unfold fn__law_take dn__law_take
  simp only [z_ob, z_om, z_b1, z_b2, z_be1, z_be2, z_bs1, z_bs2, z_bs3, z_bl1, z_bl2, z_bc1, z_bc2, z_cr1, z_cr2, z_or, z_os, z_oo, z_ol, z_oB, z_name, z_sn1, z_sn2, z_sn3, z_sn5, z_sn6, z_sn7, z_sn8, z_sn4, z_rs1, z_rs2, z_rs3, z_rs4, z_sr1, z_sr2, z_sr3, z_rss0, z_rss1, z_es, z_es1, z_es2, z_est, z_e1, z_e2, z_e4, z_se1, z_se2, z_se3, z_e5, z_nb4, z_nb5, z_nb6, z_a5, z_a6, z_a7, z_nb0, z_nb1, z_nb2, z_nb3, z_a1, z_a2, z_a3, z_a4, z_c, z_u2, z_u1, z_un, z_ev0, z_ev1, z_tup, z_lst, z_dt0, z_dt1, z_d1, z_isB, z_bt, z_bf, z_st, z_sf, z_and, z_dor, z_ite, z_not, z_no, z_chain, z_isi, z_iw1, z_iw2, z_iw3, z_isN, z_notN, z_nw1, z_nw2, z_mul, z_mw1, z_mw2, z_sl, z_po0, z_po1, z_io, z_oa, z_so1, z_so2, z_up, z_su1, z_su2, z_mut, z_mo, z_mt, z_meth, z_seq, z_next, z_asg, z_if, z_ret, z_rt, z_m1, z_m2, z_m3, z_m5, z_m6, z_m7, z_sm3, z_sm4, z_f5, z_f6, z_f7, z_k5, z_r4, z_r5, z_r6, z_m4, z_sm1, z_sm2, z_drop, z_raise, z_has, z_ho, z_seti, z_sI, z_fn, z_ent, z_f1, z_f2, z_f3, z_f4, z_k0, z_k1, z_k2, z_k3, z_k4, z_call, z_r1, z_r2, z_r3, z_callB, z_for, z_bls1, z_outR, z_fg0, z_fg1, z_lp1, z_lp2, z_lp3, z_it1, z_it2, z_rn0, z_asgT, z_tt, z_ta0, z_ta1, z_par, z_two, z_setW, List.getElem?_cons_zero, List.getElem?_cons_succ, List.set_cons_zero, List.set_cons_succ, List.map_cons, List.map_nil, List.length_cons, List.length_nil, List.cons_append, List.nil_append, List.replicate, Nat.zero_add, Nat.reduceAdd, Nat.reduceSub, if_true, List.append_nil, q_addI, q_sub, q_neg, q_cmp, q_ixL, q_ixT, q_lenL, q_lenT, q_int, q_max, q_min, q_tupL, q_lstT, q_isB, q_slL, q_slT, q_eqS, q_neS, q_tn, q_at0, q_rev, q_isNB, q_tupT, q_lstL, q_mod h.1, q_div h, q_ixn0 Nat.zero_lt_one]
theorem mixed_ok (c k : Int) (hk : 0 ≤ k ∧ k ≤ 1000000) : ∃ m : Int, (0 ≤ m ∧ m < 2147483579) ∧ fn__law_mixed [.d (.int c), .d (.int k)] = .ok (.d (.int m)) [.d (.int c), .d (.int k)] := by
  obtain ⟨a, ha⟩ : ∃ a, a = c % 2147483647 * 48271 + k * 69621 + 1048583 := ⟨_, rfl⟩
  obtain ⟨b, hb⟩ : ∃ b, b = a % 2147483629 := ⟨_, rfl⟩
  obtain ⟨d, hd⟩ : ∃ d, d = b * b % 2147483587 := ⟨_, rfl⟩
  refine ⟨d * (d + 2) % 2147483579, ⟨Int.emod_nonneg _ (by decide), Int.emod_lt_of_pos _ (by decide)⟩, ?_⟩
  have b1 : 0 ≤ b := by rw [hb]; exact Int.emod_nonneg _ (by decide)
  have b2 : b < 2147483629 := by rw [hb]; exact Int.emod_lt_of_pos _ (by decide)
  have d1 : 0 ≤ d := by rw [hd]; exact Int.emod_nonneg _ (by decide)
  have d2 : d < 2147483587 := by rw [hd]; exact Int.emod_lt_of_pos _ (by decide)
  have c1 := Int.emod_nonneg c (show (2147483647 : Int) ≠ 0 by decide)
  have c2 := Int.emod_lt_of_pos c (show (0 : Int) < 2147483647 by decide)
  have m1 : mul2 (.int (c % 2147483647)) (.int 48271) = _ := mul_ok 40 40 (by omega) (by omega)
  have m2 : mul2 (.int k) (.int 69621) = _ := mul_ok 40 40 (by omega) (by omega)
  have m3 : mul2 (.int b) (.int b) = _ := mul_ok 40 40 (by omega) (by omega)
  have m4 : mul2 (.int d) (.int (d + 2)) = _ := mul_ok 40 40 (by omega) (by omega)
  have p1 : ∀ i : Int, opMod (.int i) (.int 2147483647) = some (.d (.int (i % 2147483647))) := fun i => q_mod (by decide)
  have p2 : ∀ i : Int, opMod (.int i) (.int 2147483629) = some (.d (.int (i % 2147483629))) := fun i => q_mod (by decide)
  have p3 : ∀ i : Int, opMod (.int i) (.int 2147483587) = some (.d (.int (i % 2147483587))) := fun i => q_mod (by decide)
  have p4 : ∀ i : Int, opMod (.int i) (.int 2147483579) = some (.d (.int (i % 2147483579))) := fun i => q_mod (by decide)
  unfold fn__law_mixed dn__law_mixed
  simp only [z_ob, z_om, z_b1, z_b2, z_be1, z_be2, z_bs1, z_bs2, z_bs3, z_bl1, z_bl2, z_bc1, z_bc2, z_cr1, z_cr2, z_or, z_os, z_oo, z_ol, z_oB, z_name, z_sn1, z_sn2, z_sn3, z_sn5, z_sn6, z_sn7, z_sn8, z_sn4, z_rs1, z_rs2, z_rs3, z_rs4, z_sr1, z_sr2, z_sr3, z_rss0, z_rss1, z_es, z_es1, z_es2, z_est, z_e1, z_e2, z_e4, z_se1, z_se2, z_se3, z_e5, z_nb4, z_nb5, z_nb6, z_a5, z_a6, z_a7, z_nb0, z_nb1, z_nb2, z_nb3, z_a1, z_a2, z_a3, z_a4, z_c, z_u2, z_u1, z_un, z_ev0, z_ev1, z_tup, z_lst, z_dt0, z_dt1, z_d1, z_isB, z_bt, z_bf, z_st, z_sf, z_and, z_dor, z_ite, z_not, z_no, z_chain, z_isi, z_iw1, z_iw2, z_iw3, z_isN, z_notN, z_nw1, z_nw2, z_mul, z_mw1, z_mw2, z_sl, z_po0, z_po1, z_io, z_oa, z_so1, z_so2, z_up, z_su1, z_su2, z_mut, z_mo, z_mt, z_meth, z_seq, z_next, z_asg, z_if, z_ret, z_rt, z_m1, z_m2, z_m3, z_m5, z_m6, z_m7, z_sm3, z_sm4, z_f5, z_f6, z_f7, z_k5, z_r4, z_r5, z_r6, z_m4, z_sm1, z_sm2, z_drop, z_raise, z_has, z_ho, z_seti, z_sI, z_fn, z_ent, z_f1, z_f2, z_f3, z_f4, z_k0, z_k1, z_k2, z_k3, z_k4, z_call, z_r1, z_r2, z_r3, z_callB, z_for, z_bls1, z_outR, z_fg0, z_fg1, z_lp1, z_lp2, z_lp3, z_it1, z_it2, z_rn0, z_asgT, z_tt, z_ta0, z_ta1, z_par, z_two, z_setW, List.getElem?_cons_zero, List.getElem?_cons_succ, List.set_cons_zero, List.set_cons_succ, List.map_cons, List.map_nil, List.length_cons, List.length_nil, List.cons_append, List.nil_append, List.replicate, Nat.zero_add, Nat.reduceAdd, Nat.reduceSub, if_true, List.append_nil, q_addI, q_sub, q_neg, q_cmp, q_ixL, q_ixT, q_lenL, q_lenT, q_int, q_max, q_min, q_tupL, q_lstT, q_isB, q_slL, q_slT, q_eqS, q_neS, q_tn, q_at0, q_rev, q_isNB, q_tupT, q_lstL, p1, p2, p3, p4, m1, m2, ← ha, ← hb, ← hd, m3, m4]

theorem pile_loop (s : PyData) (c k : Int) (hk : 0 ≤ k ∧ k ≤ 20) : ∀ (n : Nat) (lo f : Int) (u : Option Wv) (b : Nat), (u = none ∨ ∃ i, u = some (.d (.int i))) → 0 ≤ lo → lo + n ≤ 24 → f.natAbs < 2 ^ b → b + 40 * n ≤ 5000 →
    ∃ (f' : Int) (u' : Option Wv), forGo (tgName 4) (dSeq (dAsg 3 (dU2 opAdd (dMulA (dName 3) (dC (.int 2147483579))) (dCall 2 fn__law_mixed [dEs (dName 2), dEs (dU2 opAdd (dU2 opAdd (dMulA (dC (.int 7)) (dName 1)) (dMulA (dC (.int 100)) (dName 4))) (dMulA (dName 4) (dName 4)))])))
      (dNext)) (rngD lo n) [some (.d s), some (.d (.int k)), some (.d (.int c)), some (.d (.int f)), u] = .nx [some (.d s), some (.d (.int k)), some (.d (.int c)), some (.d (.int f')), u']
  | 0, lo, f, u, b, _, _, _, _, _ => ⟨f, u, rfl⟩
  | n + 1, lo, f, u, b, hu, h0, h1, hf, hb => by
    have m1 : mul2 (.int f) (.int 2147483579) = _ := mul_ok b 40 hf (by omega) (by omega)
    have m2 : mul2 (.int 7) (.int k) = _ := mul_ok 40 40 (by omega) (by omega)
    have m3 : mul2 (.int 100) (.int lo) = _ := mul_ok 40 40 (by omega) (by omega)
    have m4 : mul2 (.int lo) (.int lo) = _ := mul_ok 40 40 (by omega) (by omega)
    have l2 : lo * lo ≤ 24 * 24 := Int.mul_le_mul (by omega) (by omega) h0 (by omega)
    have l3 : 0 ≤ lo * lo := Int.mul_nonneg h0 h0
    obtain ⟨m, ⟨hm1, hm2⟩, hm⟩ := mixed_ok c (7 * k + 100 * lo + lo * lo) (by omega)
    have hx : (f * 2147483579 + m).natAbs < 2 ^ (b + 40) := by
      have e1 : (f * 2147483579).natAbs = f.natAbs * 2147483579 := by rw [Int.natAbs_mul]; rfl
      have e2 : (f * 2147483579 + m).natAbs ≤ f.natAbs * 2147483579 + m.natAbs := by rw [← e1]; exact Int.natAbs_add_le _ _
      have e3 : m.natAbs < 2147483579 := by omega
      have e4 : 2 ^ (b + 40) = 2 ^ b * 1099511627776 := by rw [Nat.pow_add]
      rw [e4]
      omega
    have cv : ∀ e : En, callV 2 fn__law_mixed [.d (.int c), .d (.int (7 * k + 100 * lo + lo * lo))] e = .ok (.d (.int m)) e := fun e => by
      rw [z_cv rfl, hm]
      rfl
    have nb : notBrw (some u) = true := by
      rcases hu with rfl | ⟨i, rfl⟩ <;> rfl
    obtain ⟨f', u', ih⟩ := pile_loop s c k hk n (lo + 1) (f * 2147483579 + m) (some (.d (.int lo))) (b + 40) (.inr ⟨_, rfl⟩) (by omega) (by omega) hx (by omega)
    refine ⟨f', u', ?_⟩
    simp only [z_ob, z_om, z_b1, z_b2, z_be1, z_be2, z_bs1, z_bs2, z_bs3, z_bl1, z_bl2, z_bc1, z_bc2, z_cr1, z_cr2, z_or, z_os, z_oo, z_ol, z_oB, z_name, z_sn1, z_sn2, z_sn3, z_sn5, z_sn6, z_sn7, z_sn8, z_sn4, z_rs1, z_rs2, z_rs3, z_rs4, z_sr1, z_sr2, z_sr3, z_rss0, z_rss1, z_es, z_es1, z_es2, z_est, z_e1, z_e2, z_e4, z_se1, z_se2, z_se3, z_e5, z_nb4, z_nb5, z_nb6, z_a5, z_a6, z_a7, z_nb0, z_nb1, z_nb2, z_nb3, z_a1, z_a2, z_a3, z_a4, z_c, z_u2, z_u1, z_un, z_ev0, z_ev1, z_tup, z_lst, z_dt0, z_dt1, z_d1, z_isB, z_bt, z_bf, z_st, z_sf, z_and, z_dor, z_ite, z_not, z_no, z_chain, z_isi, z_iw1, z_iw2, z_iw3, z_isN, z_notN, z_nw1, z_nw2, z_mul, z_mw1, z_mw2, z_sl, z_po0, z_po1, z_io, z_oa, z_so1, z_so2, z_up, z_su1, z_su2, z_mut, z_mo, z_mt, z_meth, z_seq, z_next, z_asg, z_if, z_ret, z_rt, z_m1, z_m2, z_m3, z_m5, z_m6, z_m7, z_sm3, z_sm4, z_f5, z_f6, z_f7, z_k5, z_r4, z_r5, z_r6, z_m4, z_sm1, z_sm2, z_drop, z_raise, z_has, z_ho, z_seti, z_sI, z_fn, z_ent, z_f1, z_f2, z_f3, z_f4, z_k0, z_k1, z_k2, z_k3, z_k4, z_call, z_r1, z_r2, z_r3, z_callB, z_for, z_bls1, z_outR, z_fg0, z_fg1, z_lp1, z_lp2, z_lp3, z_it1, z_it2, z_rn0, z_asgT, z_tt, z_ta0, z_ta1, z_par, z_two, z_setW, List.getElem?_cons_zero, List.getElem?_cons_succ, List.set_cons_zero, List.set_cons_succ, List.map_cons, List.map_nil, List.length_cons, List.length_nil, List.cons_append, List.nil_append, List.replicate, Nat.zero_add, Nat.reduceAdd, Nat.reduceSub, if_true, List.append_nil, q_addI, q_sub, q_neg, q_cmp, q_ixL, q_ixT, q_lenL, q_lenT, q_int, q_max, q_min, q_tupL, q_lstT, q_isB, q_slL, q_slT, q_eqS, q_neS, q_tn, q_at0, q_rev, q_isNB, q_tupT, q_lstL, z_rn1, m1, m2, m3, m4, cv, nb]
    exact ih
theorem pile_ok (ns : List Int) (k : Nat) (hk : k ≤ 20) : ∃ n : Int, fn__law_pile [.d (.list (ns.map PyData.int)), .d (.int k)] = .ok (.own [.int n]) [.d (.list (ns.map PyData.int)), .d (.int k)] := by
  have p1 : opPow (.int 10) (.int 18) = some (.d (.int 1000000000000000000)) := q_pow (i := 10) (j := 18) (by decide)
  have p2 : opPow (.int 10) (.int 60) = some (.d (.int (10 ^ 60))) := q_pow (i := 10) (j := 60) (by decide)
  have q1 : mul2 (.int (10 ^ 60)) (.int (10 ^ 60)) = some (.d (.int (10 ^ 60 * 10 ^ 60))) := mul_ok 1000 1000 (by decide) (by decide)
  have q2 : mul2 (.int (10 ^ 60 * 10 ^ 60)) (.int (10 ^ 60)) = some (.d (.int (10 ^ 60 * 10 ^ 60 * 10 ^ 60))) := mul_ok 1000 1000 (by decide) (by decide)
  have q3 : mul2 (.int (10 ^ 60 * 10 ^ 60 * 10 ^ 60)) (.int (10 ^ 60)) = some (.d (.int (10 ^ 60 * 10 ^ 60 * 10 ^ 60 * 10 ^ 60))) := mul_ok 1000 1000 (by decide) (by decide)
  have md : ∀ i : Int, opMod (.int i) (.int (10 ^ 60 * 10 ^ 60 * 10 ^ 60 * 10 ^ 60)) = some (.d (.int (i % (10 ^ 60 * 10 ^ 60 * 10 ^ 60 * 10 ^ 60)))) := fun i => q_mod (by decide)
  have rg : rngOf [.int 24] = some (0, 24) := q_rng (j := 24) (by decide)
  have len : (ns.map PyData.int).length = ns.length := List.length_map ..
  have after : ∀ c : Int, ∃ n : Int, finR [.d (.list (ns.map PyData.int)), .d (.int k)] (bndS (bndE (dU2 opGe (dName 2) (dU2 opPow (dC (.int 10)) (dC (.int 18))) [some (.d (.list (ns.map PyData.int))), some (.d (.int k)), some (.d (.int c)), none, none]) fun w e1 => brS (isB (rs e1 w)) (dSeq (dRet (dLst [dEs (dU2 opMod (dUn opInt [dU2 opSub (dName 2) (dU2 opPow (dC (.int 10)) (dC (.int 18)))]) (dMulA (dMulA (dMulA (dU2 opPow (dC (.int 10)) (dC (.int 60))) (dU2 opPow (dC (.int 10)) (dC (.int 60)))) (dU2 opPow (dC (.int 10)) (dC (.int 60)))) (dU2 opPow (dC (.int 10)) (dC (.int 60)))))]))
      (dNext) e1) (dNext e1)) (dSeq (dAsg 3 (dC (.int 0)))
    (dSeq (dForR [dC (.int 24)] (tgName 4) (dSeq (dAsg 3 (dU2 opAdd (dMulA (dName 3) (dC (.int 2147483579))) (dCall 2 fn__law_mixed [dEs (dName 2), dEs (dU2 opAdd (dU2 opAdd (dMulA (dC (.int 7)) (dName 1)) (dMulA (dC (.int 100)) (dName 4))) (dMulA (dName 4) (dName 4)))])))
      (dNext)))
    (dSeq (dRet (dLst [dEs (dName 3)]))
    (dNext))))) = .ok (.own [.int n]) [.d (.list (ns.map PyData.int)), .d (.int k)] := by
    intro c
    by_cases big : (1000000000000000000 : Int) ≤ c
    · refine ⟨(c - 1000000000000000000) % (10 ^ 60 * 10 ^ 60 * 10 ^ 60 * 10 ^ 60), ?_⟩
      simp only [z_ob, z_om, z_b1, z_b2, z_be1, z_be2, z_bs1, z_bs2, z_bs3, z_bl1, z_bl2, z_bc1, z_bc2, z_cr1, z_cr2, z_or, z_os, z_oo, z_ol, z_oB, z_name, z_sn1, z_sn2, z_sn3, z_sn5, z_sn6, z_sn7, z_sn8, z_sn4, z_rs1, z_rs2, z_rs3, z_rs4, z_sr1, z_sr2, z_sr3, z_rss0, z_rss1, z_es, z_es1, z_es2, z_est, z_e1, z_e2, z_e4, z_se1, z_se2, z_se3, z_e5, z_nb4, z_nb5, z_nb6, z_a5, z_a6, z_a7, z_nb0, z_nb1, z_nb2, z_nb3, z_a1, z_a2, z_a3, z_a4, z_c, z_u2, z_u1, z_un, z_ev0, z_ev1, z_tup, z_lst, z_dt0, z_dt1, z_d1, z_isB, z_bt, z_bf, z_st, z_sf, z_and, z_dor, z_ite, z_not, z_no, z_chain, z_isi, z_iw1, z_iw2, z_iw3, z_isN, z_notN, z_nw1, z_nw2, z_mul, z_mw1, z_mw2, z_sl, z_po0, z_po1, z_io, z_oa, z_so1, z_so2, z_up, z_su1, z_su2, z_mut, z_mo, z_mt, z_meth, z_seq, z_next, z_asg, z_if, z_ret, z_rt, z_m1, z_m2, z_m3, z_m5, z_m6, z_m7, z_sm3, z_sm4, z_f5, z_f6, z_f7, z_k5, z_r4, z_r5, z_r6, z_m4, z_sm1, z_sm2, z_drop, z_raise, z_has, z_ho, z_seti, z_sI, z_fn, z_ent, z_f1, z_f2, z_f3, z_f4, z_k0, z_k1, z_k2, z_k3, z_k4, z_call, z_r1, z_r2, z_r3, z_callB, z_for, z_bls1, z_outR, z_fg0, z_fg1, z_lp1, z_lp2, z_lp3, z_it1, z_it2, z_rn0, z_asgT, z_tt, z_ta0, z_ta1, z_par, z_two, z_setW, List.getElem?_cons_zero, List.getElem?_cons_succ, List.set_cons_zero, List.set_cons_succ, List.map_cons, List.map_nil, List.length_cons, List.length_nil, List.cons_append, List.nil_append, List.replicate, Nat.zero_add, Nat.reduceAdd, Nat.reduceSub, if_true, List.append_nil, q_addI, q_sub, q_neg, q_cmp, q_ixL, q_ixT, q_lenL, q_lenT, q_int, q_max, q_min, q_tupL, q_lstT, q_isB, q_slL, q_slT, q_eqS, q_neS, q_tn, q_at0, q_rev, q_isNB, q_tupT, q_lstL, p1, p2, q1, q2, q3, md, decide_eq_true big, z_lim (show 1 ≤ 1000000 by decide)]
    · obtain ⟨f', u', ih⟩ := pile_loop (.list (ns.map PyData.int)) c k (by omega) 24 0 0 none 0 (.inl rfl) (by decide) (by decide) (by decide) (by decide)
      refine ⟨f', ?_⟩
      simp only [z_ob, z_om, z_b1, z_b2, z_be1, z_be2, z_bs1, z_bs2, z_bs3, z_bl1, z_bl2, z_bc1, z_bc2, z_cr1, z_cr2, z_or, z_os, z_oo, z_ol, z_oB, z_name, z_sn1, z_sn2, z_sn3, z_sn5, z_sn6, z_sn7, z_sn8, z_sn4, z_rs1, z_rs2, z_rs3, z_rs4, z_sr1, z_sr2, z_sr3, z_rss0, z_rss1, z_es, z_es1, z_es2, z_est, z_e1, z_e2, z_e4, z_se1, z_se2, z_se3, z_e5, z_nb4, z_nb5, z_nb6, z_a5, z_a6, z_a7, z_nb0, z_nb1, z_nb2, z_nb3, z_a1, z_a2, z_a3, z_a4, z_c, z_u2, z_u1, z_un, z_ev0, z_ev1, z_tup, z_lst, z_dt0, z_dt1, z_d1, z_isB, z_bt, z_bf, z_st, z_sf, z_and, z_dor, z_ite, z_not, z_no, z_chain, z_isi, z_iw1, z_iw2, z_iw3, z_isN, z_notN, z_nw1, z_nw2, z_mul, z_mw1, z_mw2, z_sl, z_po0, z_po1, z_io, z_oa, z_so1, z_so2, z_up, z_su1, z_su2, z_mut, z_mo, z_mt, z_meth, z_seq, z_next, z_asg, z_if, z_ret, z_rt, z_m1, z_m2, z_m3, z_m5, z_m6, z_m7, z_sm3, z_sm4, z_f5, z_f6, z_f7, z_k5, z_r4, z_r5, z_r6, z_m4, z_sm1, z_sm2, z_drop, z_raise, z_has, z_ho, z_seti, z_sI, z_fn, z_ent, z_f1, z_f2, z_f3, z_f4, z_k0, z_k1, z_k2, z_k3, z_k4, z_call, z_r1, z_r2, z_r3, z_callB, z_for, z_bls1, z_outR, z_fg0, z_fg1, z_lp1, z_lp2, z_lp3, z_it1, z_it2, z_rn0, z_asgT, z_tt, z_ta0, z_ta1, z_par, z_two, z_setW, List.getElem?_cons_zero, List.getElem?_cons_succ, List.set_cons_zero, List.set_cons_succ, List.map_cons, List.map_nil, List.length_cons, List.length_nil, List.cons_append, List.nil_append, List.replicate, Nat.zero_add, Nat.reduceAdd, Nat.reduceSub, if_true, List.append_nil, q_addI, q_sub, q_neg, q_cmp, q_ixL, q_ixT, q_lenL, q_lenT, q_int, q_max, q_min, q_tupL, q_lstT, q_isB, q_slL, q_slT, q_eqS, q_neS, q_tn, q_at0, q_rev, q_isNB, q_tupT, q_lstL, p1, decide_eq_false big, z_forR, rg, z_lim (show 1 ≤ 1000000 by decide), ih]
  by_cases lt : k < ns.length
  · obtain ⟨n, h⟩ := after ns[k]
    refine ⟨n, ?_⟩
    have a : atI (ns.map PyData.int) (k : Int) = some (.int ns[k]) := q_at (by rw [List.getElem?_map, List.getElem?_eq_getElem lt]; rfl)
    have d : decide ((k : Int) < ((ns.map PyData.int).length : Int)) = true := decide_eq_true (by rw [len]; omega)
    rw [← h]
    unfold fn__law_pile dn__law_pile lp_law_pile_1
    simp only [z_ob, z_om, z_b1, z_b2, z_be1, z_be2, z_bs1, z_bs2, z_bs3, z_bl1, z_bl2, z_bc1, z_bc2, z_cr1, z_cr2, z_or, z_os, z_oo, z_ol, z_oB, z_name, z_sn1, z_sn2, z_sn3, z_sn5, z_sn6, z_sn7, z_sn8, z_sn4, z_rs1, z_rs2, z_rs3, z_rs4, z_sr1, z_sr2, z_sr3, z_rss0, z_rss1, z_es, z_es1, z_es2, z_est, z_e1, z_e2, z_e4, z_se1, z_se2, z_se3, z_e5, z_nb4, z_nb5, z_nb6, z_a5, z_a6, z_a7, z_nb0, z_nb1, z_nb2, z_nb3, z_a1, z_a2, z_a3, z_a4, z_c, z_u2, z_u1, z_un, z_ev0, z_ev1, z_tup, z_lst, z_dt0, z_dt1, z_d1, z_isB, z_bt, z_bf, z_st, z_sf, z_and, z_dor, z_ite, z_not, z_no, z_chain, z_isi, z_iw1, z_iw2, z_iw3, z_isN, z_notN, z_nw1, z_nw2, z_mul, z_mw1, z_mw2, z_sl, z_po0, z_po1, z_io, z_oa, z_so1, z_so2, z_up, z_su1, z_su2, z_mut, z_mo, z_mt, z_meth, z_seq, z_next, z_asg, z_if, z_ret, z_rt, z_m1, z_m2, z_m3, z_m5, z_m6, z_m7, z_sm3, z_sm4, z_f5, z_f6, z_f7, z_k5, z_r4, z_r5, z_r6, z_m4, z_sm1, z_sm2, z_drop, z_raise, z_has, z_ho, z_seti, z_sI, z_fn, z_ent, z_f1, z_f2, z_f3, z_f4, z_k0, z_k1, z_k2, z_k3, z_k4, z_call, z_r1, z_r2, z_r3, z_callB, z_for, z_bls1, z_outR, z_fg0, z_fg1, z_lp1, z_lp2, z_lp3, z_it1, z_it2, z_rn0, z_asgT, z_tt, z_ta0, z_ta1, z_par, z_two, z_setW, List.getElem?_cons_zero, List.getElem?_cons_succ, List.set_cons_zero, List.set_cons_succ, List.map_cons, List.map_nil, List.length_cons, List.length_nil, List.cons_append, List.nil_append, List.replicate, Nat.zero_add, Nat.reduceAdd, Nat.reduceSub, if_true, List.append_nil, q_addI, q_sub, q_neg, q_cmp, q_ixL, q_ixT, q_lenL, q_lenT, q_int, q_max, q_min, q_tupL, q_lstT, q_isB, q_slL, q_slT, q_eqS, q_neS, q_tn, q_at0, q_rev, q_isNB, q_tupT, q_lstL, d, a]
  · obtain ⟨n, h⟩ := after 0
    refine ⟨n, ?_⟩
    have d : decide ((k : Int) < ((ns.map PyData.int).length : Int)) = false := decide_eq_false (by rw [len]; omega)
    rw [← h]
    unfold fn__law_pile dn__law_pile lp_law_pile_1
    simp only [z_ob, z_om, z_b1, z_b2, z_be1, z_be2, z_bs1, z_bs2, z_bs3, z_bl1, z_bl2, z_bc1, z_bc2, z_cr1, z_cr2, z_or, z_os, z_oo, z_ol, z_oB, z_name, z_sn1, z_sn2, z_sn3, z_sn5, z_sn6, z_sn7, z_sn8, z_sn4, z_rs1, z_rs2, z_rs3, z_rs4, z_sr1, z_sr2, z_sr3, z_rss0, z_rss1, z_es, z_es1, z_es2, z_est, z_e1, z_e2, z_e4, z_se1, z_se2, z_se3, z_e5, z_nb4, z_nb5, z_nb6, z_a5, z_a6, z_a7, z_nb0, z_nb1, z_nb2, z_nb3, z_a1, z_a2, z_a3, z_a4, z_c, z_u2, z_u1, z_un, z_ev0, z_ev1, z_tup, z_lst, z_dt0, z_dt1, z_d1, z_isB, z_bt, z_bf, z_st, z_sf, z_and, z_dor, z_ite, z_not, z_no, z_chain, z_isi, z_iw1, z_iw2, z_iw3, z_isN, z_notN, z_nw1, z_nw2, z_mul, z_mw1, z_mw2, z_sl, z_po0, z_po1, z_io, z_oa, z_so1, z_so2, z_up, z_su1, z_su2, z_mut, z_mo, z_mt, z_meth, z_seq, z_next, z_asg, z_if, z_ret, z_rt, z_m1, z_m2, z_m3, z_m5, z_m6, z_m7, z_sm3, z_sm4, z_f5, z_f6, z_f7, z_k5, z_r4, z_r5, z_r6, z_m4, z_sm1, z_sm2, z_drop, z_raise, z_has, z_ho, z_seti, z_sI, z_fn, z_ent, z_f1, z_f2, z_f3, z_f4, z_k0, z_k1, z_k2, z_k3, z_k4, z_call, z_r1, z_r2, z_r3, z_callB, z_for, z_bls1, z_outR, z_fg0, z_fg1, z_lp1, z_lp2, z_lp3, z_it1, z_it2, z_rn0, z_asgT, z_tt, z_ta0, z_ta1, z_par, z_two, z_setW, List.getElem?_cons_zero, List.getElem?_cons_succ, List.set_cons_zero, List.set_cons_succ, List.map_cons, List.map_nil, List.length_cons, List.length_nil, List.cons_append, List.nil_append, List.replicate, Nat.zero_add, Nat.reduceAdd, Nat.reduceSub, if_true, List.append_nil, q_addI, q_sub, q_neg, q_cmp, q_ixL, q_ixT, q_lenL, q_lenT, q_int, q_max, q_min, q_tupL, q_lstT, q_isB, q_slL, q_slT, q_eqS, q_neS, q_tn, q_at0, q_rev, q_isNB, q_tupT, q_lstL, d]
end Vf.Law
/-! The law's schemas. -/
namespace Vf.Law
open PySem PySem.Spec L2
theorem cb0 {n s : Int} {r : En} (h : 0 < s ∧ s < 1073741824) : callB 2 fn__law_take [.loc 0, .d (.int s)] (some (.brw [.int n]) :: r) = .ok (.d (.int (n % s))) (some (.brw [.int (n / s)]) :: r) :=
  z_cb (xs := [.int n]) (ys := [.int (n / s)]) (us := [.d (.int s)]) rfl rfl (take_ok n s h) (.inl rfl) rfl
def ords : List Str := ["up first", "up last", "down first", "down last"]
def ORDL : List PyData := [.str "up first", .str "up last", .str "down first", .str "down last"]
theorem ords_map : ords.map PyData.str = ORDL := rfl
/-- of a column -/
structure ColS (ss : List Str) : Prop where
  nd : ss.Nodup
  of : ∀ o ∈ ss, o ∈ ords
  few : ss.length ≤ 4
def GoodCol (c : PyData) : Prop := ∃ ss : List Str, c = .tuple (ss.map PyData.str) ∧ ColS ss ∧ ss ≠ []
def Cols (cs : List PyData) : Prop := ∀ c ∈ cs, GoodCol c
theorem col_loop (o1 o2 o3 : Option Wv) : ∀ (os ss : List Str) (n : Int) (u : Option Wv), notBrw (some u) = true → (ss ++ os).Nodup → ss.length + os.length ≤ 4 →
    ∃ (n' : Int) (ss' : List Str) (u' : Option Wv), notBrw (some u') = true ∧ ss'.Nodup ∧ ss'.length ≤ 4 ∧ (∀ o ∈ ss', o ∈ ss ++ os) ∧
      forGo (tgName 5) (dSeq (dIf (dU2 opEq (dCallB 2 fn__law_take [dName 0, dC (.int 2)]) (dC (.int 1))) (dSeq (dDrop (dMut 4 opIns [dEs (dCallB 2 fn__law_take [dName 0, dEs (dU2 opAdd (dUn opLen [dName 4]) (dC (.int 1)))]), dEs (dName 5)]))
          (dNext)) (dNext))
        (dNext)) (os.map PyData.str) [some (.brw [.int n]), o1, o2, o3, some (.own (ss.map PyData.str)), u] = .nx [some (.brw [.int n']), o1, o2, o3, some (.own (ss'.map PyData.str)), u']
  | [], ss, n, u, hu, nd, few => ⟨n, ss, u, hu, by simpa using nd, by simpa using few, fun o h => by simpa using h, rfl⟩
  | o :: os, ss, n, u, hu, nd, few => by
    have c2 := fun (n : Int) (r : En) => cb0 (n := n) (s := 2) (r := r) (by decide)
    have len : (ss.map PyData.str).length = ss.length := List.length_map ..
    rw [List.length_cons] at few
    by_cases odd : n % 2 = 1
    · have c3 := fun (n : Int) (r : En) => cb0 (n := n) (s := ((ss.map PyData.str).length : Int) + 1) (r := r) (by rw [len]; omega)
      obtain ⟨i, hi⟩ : ∃ i : Int, i = n / 2 % (((ss.map PyData.str).length : Int) + 1) := ⟨_, rfl⟩
      have i0 : 0 ≤ i := by rw [hi]; exact Int.emod_nonneg _ (by omega)
      have i1 : i < ((ss.map PyData.str).length : Int) + 1 := by rw [hi]; exact Int.emod_lt_of_pos _ (by omega)
      have ins : opIns (ss.map PyData.str) [.int i, .str o] = some ((ss.take i.toNat ++ [o] ++ ss.drop i.toNat).map PyData.str, .none) := by
        have e : (ss.take i.toNat ++ [o] ++ ss.drop i.toNat).map PyData.str = (ss.map PyData.str).take i.toNat ++ [.str o] ++ (ss.map PyData.str).drop i.toNat := by
          rw [List.map_append, List.map_append, List.map_take, List.map_drop]
          rfl
        rw [e]
        exact if_pos ⟨by rw [len]; omega, i0, by rw [len] at i1; omega⟩
      have perm : (ss.take i.toNat ++ [o] ++ ss.drop i.toNat).Perm (o :: ss) := by
        have a : (ss.take i.toNat ++ [o] ++ ss.drop i.toNat).Perm (o :: (ss.take i.toNat ++ ss.drop i.toNat)) := by
          rw [List.append_assoc]
          exact List.perm_middle
        rwa [List.take_append_drop] at a
      have nd2 : ((ss.take i.toNat ++ [o] ++ ss.drop i.toNat) ++ os).Nodup := by
        have p2 : ((ss.take i.toNat ++ [o] ++ ss.drop i.toNat) ++ os).Perm (ss ++ o :: os) := (perm.append_right os).trans List.perm_middle.symm
        exact p2.nodup_iff.mpr nd
      have pl := perm.length_eq
      rw [List.length_cons] at pl
      obtain ⟨n', ss', u', h1, h2, h3, h4, h5⟩ := col_loop o1 o2 o3 os _ (n / 2 / (((ss.map PyData.str).length : Int) + 1)) (some (.d (.str o))) rfl nd2 (by omega)
      refine ⟨n', ss', u', h1, h2, h3, fun x hx => ?_, ?_⟩
      · rcases List.mem_append.mp (h4 x hx) with z | z
        · rcases List.mem_cons.mp (perm.mem_iff.mp z) with z | z
          · rw [z]; exact List.mem_append_right _ List.mem_cons_self
          · exact List.mem_append_left _ z
        · exact List.mem_append_right _ (List.mem_cons_of_mem _ z)
      · rw [List.map_cons]
        simp only [z_ob, z_om, z_b1, z_b2, z_be1, z_be2, z_bs1, z_bs2, z_bs3, z_bl1, z_bl2, z_bc1, z_bc2, z_cr1, z_cr2, z_or, z_os, z_oo, z_ol, z_oB, z_name, z_sn1, z_sn2, z_sn3, z_sn5, z_sn6, z_sn7, z_sn8, z_sn4, z_rs1, z_rs2, z_rs3, z_rs4, z_sr1, z_sr2, z_sr3, z_rss0, z_rss1, z_es, z_es1, z_es2, z_est, z_e1, z_e2, z_e4, z_se1, z_se2, z_se3, z_e5, z_nb4, z_nb5, z_nb6, z_a5, z_a6, z_a7, z_nb0, z_nb1, z_nb2, z_nb3, z_a1, z_a2, z_a3, z_a4, z_c, z_u2, z_u1, z_un, z_ev0, z_ev1, z_tup, z_lst, z_dt0, z_dt1, z_d1, z_isB, z_bt, z_bf, z_st, z_sf, z_and, z_dor, z_ite, z_not, z_no, z_chain, z_isi, z_iw1, z_iw2, z_iw3, z_isN, z_notN, z_nw1, z_nw2, z_mul, z_mw1, z_mw2, z_sl, z_po0, z_po1, z_io, z_oa, z_so1, z_so2, z_up, z_su1, z_su2, z_mut, z_mo, z_mt, z_meth, z_seq, z_next, z_asg, z_if, z_ret, z_rt, z_m1, z_m2, z_m3, z_m5, z_m6, z_m7, z_sm3, z_sm4, z_f5, z_f6, z_f7, z_k5, z_r4, z_r5, z_r6, z_m4, z_sm1, z_sm2, z_drop, z_raise, z_has, z_ho, z_seti, z_sI, z_fn, z_ent, z_f1, z_f2, z_f3, z_f4, z_k0, z_k1, z_k2, z_k3, z_k4, z_call, z_r1, z_r2, z_r3, z_callB, z_for, z_bls1, z_outR, z_fg0, z_fg1, z_lp1, z_lp2, z_lp3, z_it1, z_it2, z_rn0, z_asgT, z_tt, z_ta0, z_ta1, z_par, z_two, z_setW, List.getElem?_cons_zero, List.getElem?_cons_succ, List.set_cons_zero, List.set_cons_succ, List.map_cons, List.map_nil, List.length_cons, List.length_nil, List.cons_append, List.nil_append, List.replicate, Nat.zero_add, Nat.reduceAdd, Nat.reduceSub, if_true, List.append_nil, q_addI, q_sub, q_neg, q_cmp, q_ixL, q_ixT, q_lenL, q_lenT, q_int, q_max, q_min, q_tupL, q_lstT, q_isB, q_slL, q_slT, q_eqS, q_neS, q_tn, q_at0, q_rev, q_isNB, q_tupT, q_lstL, hu, c2, c3, q_eqI, decide_eq_true odd, ← hi, ins]
        exact h5
    · obtain ⟨n', ss', u', h1, h2, h3, h4, h5⟩ := col_loop o1 o2 o3 os ss (n / 2) (some (.d (.str o))) rfl (by
        have p2 : (ss ++ o :: os).Perm (o :: (ss ++ os)) := List.perm_middle
        exact (List.nodup_cons.mp (p2.nodup_iff.mp nd)).2) (by omega)
      refine ⟨n', ss', u', h1, h2, h3, fun x hx => ?_, ?_⟩
      · rcases List.mem_append.mp (h4 x hx) with z | z
        · exact List.mem_append_left _ z
        · exact List.mem_append_right _ (List.mem_cons_of_mem _ z)
      · rw [List.map_cons]
        simp only [z_ob, z_om, z_b1, z_b2, z_be1, z_be2, z_bs1, z_bs2, z_bs3, z_bl1, z_bl2, z_bc1, z_bc2, z_cr1, z_cr2, z_or, z_os, z_oo, z_ol, z_oB, z_name, z_sn1, z_sn2, z_sn3, z_sn5, z_sn6, z_sn7, z_sn8, z_sn4, z_rs1, z_rs2, z_rs3, z_rs4, z_sr1, z_sr2, z_sr3, z_rss0, z_rss1, z_es, z_es1, z_es2, z_est, z_e1, z_e2, z_e4, z_se1, z_se2, z_se3, z_e5, z_nb4, z_nb5, z_nb6, z_a5, z_a6, z_a7, z_nb0, z_nb1, z_nb2, z_nb3, z_a1, z_a2, z_a3, z_a4, z_c, z_u2, z_u1, z_un, z_ev0, z_ev1, z_tup, z_lst, z_dt0, z_dt1, z_d1, z_isB, z_bt, z_bf, z_st, z_sf, z_and, z_dor, z_ite, z_not, z_no, z_chain, z_isi, z_iw1, z_iw2, z_iw3, z_isN, z_notN, z_nw1, z_nw2, z_mul, z_mw1, z_mw2, z_sl, z_po0, z_po1, z_io, z_oa, z_so1, z_so2, z_up, z_su1, z_su2, z_mut, z_mo, z_mt, z_meth, z_seq, z_next, z_asg, z_if, z_ret, z_rt, z_m1, z_m2, z_m3, z_m5, z_m6, z_m7, z_sm3, z_sm4, z_f5, z_f6, z_f7, z_k5, z_r4, z_r5, z_r6, z_m4, z_sm1, z_sm2, z_drop, z_raise, z_has, z_ho, z_seti, z_sI, z_fn, z_ent, z_f1, z_f2, z_f3, z_f4, z_k0, z_k1, z_k2, z_k3, z_k4, z_call, z_r1, z_r2, z_r3, z_callB, z_for, z_bls1, z_outR, z_fg0, z_fg1, z_lp1, z_lp2, z_lp3, z_it1, z_it2, z_rn0, z_asgT, z_tt, z_ta0, z_ta1, z_par, z_two, z_setW, List.getElem?_cons_zero, List.getElem?_cons_succ, List.set_cons_zero, List.set_cons_succ, List.map_cons, List.map_nil, List.length_cons, List.length_nil, List.cons_append, List.nil_append, List.replicate, Nat.zero_add, Nat.reduceAdd, Nat.reduceSub, if_true, List.append_nil, q_addI, q_sub, q_neg, q_cmp, q_ixL, q_ixT, q_lenL, q_lenT, q_int, q_max, q_min, q_tupL, q_lstT, q_isB, q_slL, q_slT, q_eqS, q_neS, q_tn, q_at0, q_rev, q_isNB, q_tupT, q_lstL, hu, c2, q_eqI, decide_eq_false odd]
        exact h5

theorem ord_nice : ∀ o ∈ ords, Nice 0 12 (.str o) := by
  intro o h
  refine nice_ok ?_
  revert o
  decide +kernel
theorem col_nice {ss : List Str} (h : ∀ o ∈ ss, o ∈ ords) : ∀ x ∈ ss.map PyData.str, Nice 0 12 x := fun x hx => by
  obtain ⟨o, ho, rfl⟩ := List.mem_map.mp hx
  exact ord_nice o (h o ho)
theorem eq_nil0 : opEq (.list []) (.list []) = some (.d (.bool true)) := by rfl
theorem eq_nil1 {x : PyData} {xs : List PyData} (h : SeqAt.shaped (.list (x :: xs)) = true) : opEq (.list (x :: xs)) (.list []) = some (.d (.bool false)) := by
  show ((if (SeqAt.shaped (.list (x :: xs)) && SeqAt.shaped (.list [])) = true then some (PyData.eqv (.list (x :: xs)) (.list [])) else none : Option Bool).map fun b => Wv.d (.bool b)) = _
  rw [h]
  have e : PyData.eqv (.list (x :: xs)) (.list []) = false := by
    simp [PyData.eqv, PyData.eqvAll]
  rw [e]
  rfl
theorem four {n : Int} : ∃ o ∈ ords, atI ORDL (n % 4) = some (.str o) := by
  have h : n % 4 = 0 ∨ n % 4 = 1 ∨ n % 4 = 2 ∨ n % 4 = 3 := by omega
  rcases h with h | h | h | h <;> rw [h]
  · exact ⟨"up first", by decide, q_at (n := 0) rfl⟩
  · exact ⟨"up last", by decide, q_at (n := 1) rfl⟩
  · exact ⟨"down first", by decide, q_at (n := 2) rfl⟩
  · exact ⟨"down last", by decide, q_at (n := 3) rfl⟩
abbrev schBody : DS := dSeq (dAsg 4 (dLst []))
      (dSeq (dFor (dName 1) (tgName 5) (dSeq (dIf (dU2 opEq (dCallB 2 fn__law_take [dName 0, dC (.int 2)]) (dC (.int 1))) (dSeq (dDrop (dMut 4 opIns [dEs (dCallB 2 fn__law_take [dName 0, dEs (dU2 opAdd (dUn opLen [dName 4]) (dC (.int 1)))]), dEs (dName 5)]))
          (dNext)) (dNext))
        (dNext)))
      (dSeq (dIf (dU2 opEq (dName 4) (dLst [])) (dSeq (dAsg 4 (dLst [dEs (dU2 opIx (dName 1) (dCallB 2 fn__law_take [dName 0, dC (.int 4)]))]))
        (dNext)) (dNext))
      (dSeq (dDrop (dMut 2 opApp [dUn opTuple [dName 4]]))
      (dNext))))
theorem schema_loop : ∀ (m : Nat) (lo n : Int) (cs : List PyData) (o1 u3 u4 u5 : Option Wv), (o1 = some (.own ORDL) ∨ o1 = some (.d (.list ORDL))) → notBrw (some u3) = true → notBrw (some u4) = true → notBrw (some u5) = true → Cols cs → cs.length + m ≤ 6 →
    ∃ (n' : Int) (cs' : List PyData) (o1' u3' u4' u5' : Option Wv), Cols cs' ∧ cs'.length = cs.length + m ∧
      forGo (tgName 3) schBody (rngD lo m) [some (.brw [.int n]), o1, some (.own cs), u3, u4, u5] = .nx [some (.brw [.int n']), o1', some (.own cs'), u3', u4', u5']
  | 0, lo, n, cs, o1, u3, u4, u5, _, _, _, _, hc, _ => ⟨n, cs, o1, u3, u4, u5, hc, rfl, rfl⟩
  | m + 1, lo, n, cs, o1, u3, u4, u5, ho, h3, h4, h5, hc, few => by
    have c4 := fun (n : Int) (r : En) => cb0 (n := n) (s := 4) (r := r) (by decide)
    have l0 := z_lim (n := 0) (w := .own []) (Nat.zero_le _)
    have l1 : ∀ w : Wv, lim 1 w = some w := fun w => z_lim (by decide)
    obtain ⟨n1, ss, u5', k1, k2, k3, k4, k5⟩ := col_loop (some (.d (.list ORDL))) (some (.own cs)) (some (.d (.int lo))) ords [] n u5 h5 (by decide) (by decide)
    rw [ords_map, List.map_nil] at k5
    have app : ∀ c : PyData, opApp cs [c] = some (cs ++ [c], .none) := fun c => if_pos (by omega)
    have fin : ∀ (n2 : Int) (tt : List Str) (u4' : Option Wv), ColS tt → tt ≠ [] → notBrw (some u4') = true →
        ∃ (n' : Int) (cs' : List PyData) (o1' u3' u4'' u5'' : Option Wv), Cols cs' ∧ cs'.length = cs.length + (m + 1) ∧ forGo (tgName 3) schBody (rngD (lo + 1) m) [some (.brw [.int n2]), some (.d (.list ORDL)), some (.own (cs ++ [.tuple (tt.map PyData.str)])), some (.d (.int lo)), u4', u5'] = .nx [some (.brw [.int n']), o1', some (.own cs'), u3', u4'', u5''] := by
      intro n2 tt u4' ht hne hu
      obtain ⟨n', cs', o1', u3', u4'', u5'', j1, j2, j3⟩ := schema_loop m (lo + 1) n2 (cs ++ [.tuple (tt.map PyData.str)]) (some (.d (.list ORDL))) (some (.d (.int lo))) u4' u5' (.inr rfl) rfl hu k1 (fun c hx => by
        rcases List.mem_append.mp hx with z | z
        · exact hc c z
        · rw [List.mem_singleton.mp z]; exact ⟨tt, rfl, ht, hne⟩) (by rw [List.length_append]; simp only [List.length_cons, List.length_nil]; omega)
      refine ⟨n', cs', o1', u3', u4'', u5'', j1, ?_, j3⟩
      rw [j2, List.length_append]
      simp only [List.length_cons, List.length_nil]
      omega
    cases ss with
    | nil =>
      obtain ⟨o, o_in, at_⟩ := four (n := n1)
      obtain ⟨n', cs', o1', u3', u4'', u5'', j1, j2, j3⟩ := fin (n1 / 4) [o] (some (.own [.str o])) ⟨by simp, fun x hx => by rw [List.mem_singleton.mp hx]; exact o_in, by simp⟩ (by simp) rfl
      refine ⟨n', cs', o1', u3', u4'', u5'', j1, j2, ?_⟩
      rw [List.map_nil] at k5
      unfold schBody
      rcases ho with rfl | rfl
      · simp only [z_ob, z_om, z_b1, z_b2, z_be1, z_be2, z_bs1, z_bs2, z_bs3, z_bl1, z_bl2, z_bc1, z_bc2, z_cr1, z_cr2, z_or, z_os, z_oo, z_ol, z_oB, z_name, z_sn1, z_sn2, z_sn3, z_sn5, z_sn6, z_sn7, z_sn8, z_sn4, z_rs1, z_rs2, z_rs3, z_rs4, z_sr1, z_sr2, z_sr3, z_rss0, z_rss1, z_es, z_es1, z_es2, z_est, z_e1, z_e2, z_e4, z_se1, z_se2, z_se3, z_e5, z_nb4, z_nb5, z_nb6, z_a5, z_a6, z_a7, z_nb0, z_nb1, z_nb2, z_nb3, z_a1, z_a2, z_a3, z_a4, z_c, z_u2, z_u1, z_un, z_ev0, z_ev1, z_tup, z_lst, z_dt0, z_dt1, z_d1, z_isB, z_bt, z_bf, z_st, z_sf, z_and, z_dor, z_ite, z_not, z_no, z_chain, z_isi, z_iw1, z_iw2, z_iw3, z_isN, z_notN, z_nw1, z_nw2, z_mul, z_mw1, z_mw2, z_sl, z_po0, z_po1, z_io, z_oa, z_so1, z_so2, z_up, z_su1, z_su2, z_mut, z_mo, z_mt, z_meth, z_seq, z_next, z_asg, z_if, z_ret, z_rt, z_m1, z_m2, z_m3, z_m5, z_m6, z_m7, z_sm3, z_sm4, z_f5, z_f6, z_f7, z_k5, z_r4, z_r5, z_r6, z_m4, z_sm1, z_sm2, z_drop, z_raise, z_has, z_ho, z_seti, z_sI, z_fn, z_ent, z_f1, z_f2, z_f3, z_f4, z_k0, z_k1, z_k2, z_k3, z_k4, z_call, z_r1, z_r2, z_r3, z_callB, z_for, z_bls1, z_outR, z_fg0, z_fg1, z_lp1, z_lp2, z_lp3, z_it1, z_it2, z_rn0, z_asgT, z_tt, z_ta0, z_ta1, z_par, z_two, z_setW, List.getElem?_cons_zero, List.getElem?_cons_succ, List.set_cons_zero, List.set_cons_succ, List.map_cons, List.map_nil, List.length_cons, List.length_nil, List.cons_append, List.nil_append, List.replicate, Nat.zero_add, Nat.reduceAdd, Nat.reduceSub, if_true, List.append_nil, q_addI, q_sub, q_neg, q_cmp, q_ixL, q_ixT, q_lenL, q_lenT, q_int, q_max, q_min, q_tupL, q_lstT, q_isB, q_slL, q_slT, q_eqS, q_neS, q_tn, q_at0, q_rev, q_isNB, q_tupT, q_lstL, z_rn1, h3, h4, h5, l0, k5, eq_nil0, c4, at_, l1, app]
        exact j3
      · simp only [z_ob, z_om, z_b1, z_b2, z_be1, z_be2, z_bs1, z_bs2, z_bs3, z_bl1, z_bl2, z_bc1, z_bc2, z_cr1, z_cr2, z_or, z_os, z_oo, z_ol, z_oB, z_name, z_sn1, z_sn2, z_sn3, z_sn5, z_sn6, z_sn7, z_sn8, z_sn4, z_rs1, z_rs2, z_rs3, z_rs4, z_sr1, z_sr2, z_sr3, z_rss0, z_rss1, z_es, z_es1, z_es2, z_est, z_e1, z_e2, z_e4, z_se1, z_se2, z_se3, z_e5, z_nb4, z_nb5, z_nb6, z_a5, z_a6, z_a7, z_nb0, z_nb1, z_nb2, z_nb3, z_a1, z_a2, z_a3, z_a4, z_c, z_u2, z_u1, z_un, z_ev0, z_ev1, z_tup, z_lst, z_dt0, z_dt1, z_d1, z_isB, z_bt, z_bf, z_st, z_sf, z_and, z_dor, z_ite, z_not, z_no, z_chain, z_isi, z_iw1, z_iw2, z_iw3, z_isN, z_notN, z_nw1, z_nw2, z_mul, z_mw1, z_mw2, z_sl, z_po0, z_po1, z_io, z_oa, z_so1, z_so2, z_up, z_su1, z_su2, z_mut, z_mo, z_mt, z_meth, z_seq, z_next, z_asg, z_if, z_ret, z_rt, z_m1, z_m2, z_m3, z_m5, z_m6, z_m7, z_sm3, z_sm4, z_f5, z_f6, z_f7, z_k5, z_r4, z_r5, z_r6, z_m4, z_sm1, z_sm2, z_drop, z_raise, z_has, z_ho, z_seti, z_sI, z_fn, z_ent, z_f1, z_f2, z_f3, z_f4, z_k0, z_k1, z_k2, z_k3, z_k4, z_call, z_r1, z_r2, z_r3, z_callB, z_for, z_bls1, z_outR, z_fg0, z_fg1, z_lp1, z_lp2, z_lp3, z_it1, z_it2, z_rn0, z_asgT, z_tt, z_ta0, z_ta1, z_par, z_two, z_setW, List.getElem?_cons_zero, List.getElem?_cons_succ, List.set_cons_zero, List.set_cons_succ, List.map_cons, List.map_nil, List.length_cons, List.length_nil, List.cons_append, List.nil_append, List.replicate, Nat.zero_add, Nat.reduceAdd, Nat.reduceSub, if_true, List.append_nil, q_addI, q_sub, q_neg, q_cmp, q_ixL, q_ixT, q_lenL, q_lenT, q_int, q_max, q_min, q_tupL, q_lstT, q_isB, q_slL, q_slT, q_eqS, q_neS, q_tn, q_at0, q_rev, q_isNB, q_tupT, q_lstL, z_rn1, h3, h4, h5, l0, k5, eq_nil0, c4, at_, l1, app]
        exact j3
    | cons o os =>
      have good : ColS (o :: os) := ⟨k2, fun x hx => by simpa using k4 x hx, k3⟩
      have sh : SeqAt.shaped (.list ((o :: os).map PyData.str)) = true := (nice_list (n := 4) (col_nice good.of) (by rw [List.length_map]; exact k3)).shaped (by decide)
      rw [List.map_cons] at sh k5
      have e := eq_nil1 sh
      obtain ⟨n', cs', o1', u3', u4'', u5'', j1, j2, j3⟩ := fin n1 (o :: os) (some (.own (.str o :: os.map PyData.str))) good (by simp) rfl
      refine ⟨n', cs', o1', u3', u4'', u5'', j1, j2, ?_⟩
      rw [List.map_cons] at j3
      unfold schBody
      rcases ho with rfl | rfl
      · simp only [z_ob, z_om, z_b1, z_b2, z_be1, z_be2, z_bs1, z_bs2, z_bs3, z_bl1, z_bl2, z_bc1, z_bc2, z_cr1, z_cr2, z_or, z_os, z_oo, z_ol, z_oB, z_name, z_sn1, z_sn2, z_sn3, z_sn5, z_sn6, z_sn7, z_sn8, z_sn4, z_rs1, z_rs2, z_rs3, z_rs4, z_sr1, z_sr2, z_sr3, z_rss0, z_rss1, z_es, z_es1, z_es2, z_est, z_e1, z_e2, z_e4, z_se1, z_se2, z_se3, z_e5, z_nb4, z_nb5, z_nb6, z_a5, z_a6, z_a7, z_nb0, z_nb1, z_nb2, z_nb3, z_a1, z_a2, z_a3, z_a4, z_c, z_u2, z_u1, z_un, z_ev0, z_ev1, z_tup, z_lst, z_dt0, z_dt1, z_d1, z_isB, z_bt, z_bf, z_st, z_sf, z_and, z_dor, z_ite, z_not, z_no, z_chain, z_isi, z_iw1, z_iw2, z_iw3, z_isN, z_notN, z_nw1, z_nw2, z_mul, z_mw1, z_mw2, z_sl, z_po0, z_po1, z_io, z_oa, z_so1, z_so2, z_up, z_su1, z_su2, z_mut, z_mo, z_mt, z_meth, z_seq, z_next, z_asg, z_if, z_ret, z_rt, z_m1, z_m2, z_m3, z_m5, z_m6, z_m7, z_sm3, z_sm4, z_f5, z_f6, z_f7, z_k5, z_r4, z_r5, z_r6, z_m4, z_sm1, z_sm2, z_drop, z_raise, z_has, z_ho, z_seti, z_sI, z_fn, z_ent, z_f1, z_f2, z_f3, z_f4, z_k0, z_k1, z_k2, z_k3, z_k4, z_call, z_r1, z_r2, z_r3, z_callB, z_for, z_bls1, z_outR, z_fg0, z_fg1, z_lp1, z_lp2, z_lp3, z_it1, z_it2, z_rn0, z_asgT, z_tt, z_ta0, z_ta1, z_par, z_two, z_setW, List.getElem?_cons_zero, List.getElem?_cons_succ, List.set_cons_zero, List.set_cons_succ, List.map_cons, List.map_nil, List.length_cons, List.length_nil, List.cons_append, List.nil_append, List.replicate, Nat.zero_add, Nat.reduceAdd, Nat.reduceSub, if_true, List.append_nil, q_addI, q_sub, q_neg, q_cmp, q_ixL, q_ixT, q_lenL, q_lenT, q_int, q_max, q_min, q_tupL, q_lstT, q_isB, q_slL, q_slT, q_eqS, q_neS, q_tn, q_at0, q_rev, q_isNB, q_tupT, q_lstL, z_rn1, h3, h4, h5, l0, k5, e, app]
        exact j3
      · simp only [z_ob, z_om, z_b1, z_b2, z_be1, z_be2, z_bs1, z_bs2, z_bs3, z_bl1, z_bl2, z_bc1, z_bc2, z_cr1, z_cr2, z_or, z_os, z_oo, z_ol, z_oB, z_name, z_sn1, z_sn2, z_sn3, z_sn5, z_sn6, z_sn7, z_sn8, z_sn4, z_rs1, z_rs2, z_rs3, z_rs4, z_sr1, z_sr2, z_sr3, z_rss0, z_rss1, z_es, z_es1, z_es2, z_est, z_e1, z_e2, z_e4, z_se1, z_se2, z_se3, z_e5, z_nb4, z_nb5, z_nb6, z_a5, z_a6, z_a7, z_nb0, z_nb1, z_nb2, z_nb3, z_a1, z_a2, z_a3, z_a4, z_c, z_u2, z_u1, z_un, z_ev0, z_ev1, z_tup, z_lst, z_dt0, z_dt1, z_d1, z_isB, z_bt, z_bf, z_st, z_sf, z_and, z_dor, z_ite, z_not, z_no, z_chain, z_isi, z_iw1, z_iw2, z_iw3, z_isN, z_notN, z_nw1, z_nw2, z_mul, z_mw1, z_mw2, z_sl, z_po0, z_po1, z_io, z_oa, z_so1, z_so2, z_up, z_su1, z_su2, z_mut, z_mo, z_mt, z_meth, z_seq, z_next, z_asg, z_if, z_ret, z_rt, z_m1, z_m2, z_m3, z_m5, z_m6, z_m7, z_sm3, z_sm4, z_f5, z_f6, z_f7, z_k5, z_r4, z_r5, z_r6, z_m4, z_sm1, z_sm2, z_drop, z_raise, z_has, z_ho, z_seti, z_sI, z_fn, z_ent, z_f1, z_f2, z_f3, z_f4, z_k0, z_k1, z_k2, z_k3, z_k4, z_call, z_r1, z_r2, z_r3, z_callB, z_for, z_bls1, z_outR, z_fg0, z_fg1, z_lp1, z_lp2, z_lp3, z_it1, z_it2, z_rn0, z_asgT, z_tt, z_ta0, z_ta1, z_par, z_two, z_setW, List.getElem?_cons_zero, List.getElem?_cons_succ, List.set_cons_zero, List.set_cons_succ, List.map_cons, List.map_nil, List.length_cons, List.length_nil, List.cons_append, List.nil_append, List.replicate, Nat.zero_add, Nat.reduceAdd, Nat.reduceSub, if_true, List.append_nil, q_addI, q_sub, q_neg, q_cmp, q_ixL, q_ixT, q_lenL, q_lenT, q_int, q_max, q_min, q_tupL, q_lstT, q_isB, q_slL, q_slT, q_eqS, q_neS, q_tn, q_at0, q_rev, q_isNB, q_tupT, q_lstL, z_rn1, h3, h4, h5, l0, k5, e, app]
        exact j3
theorem eight {n : Int} : ∃ c : Nat, (1 ≤ c ∧ c ≤ 6) ∧ atI [PyData.int 1, .int 2, .int 2, .int 3, .int 3, .int 4, .int 5, .int 6] (n % 8) = some (.int (c : Int)) := by
  have h : n % 8 = 0 ∨ n % 8 = 1 ∨ n % 8 = 2 ∨ n % 8 = 3 ∨ n % 8 = 4 ∨ n % 8 = 5 ∨ n % 8 = 6 ∨ n % 8 = 7 := by omega
  rcases h with h | h | h | h | h | h | h | h <;> rw [h]
  · exact ⟨1, by decide, q_at (n := 0) rfl⟩
  · exact ⟨2, by decide, q_at (n := 1) rfl⟩
  · exact ⟨2, by decide, q_at (n := 2) rfl⟩
  · exact ⟨3, by decide, q_at (n := 3) rfl⟩
  · exact ⟨3, by decide, q_at (n := 4) rfl⟩
  · exact ⟨4, by decide, q_at (n := 5) rfl⟩
  · exact ⟨5, by decide, q_at (n := 6) rfl⟩
  · exact ⟨6, by decide, q_at (n := 7) rfl⟩
theorem rng_nat {c : Nat} (h : c ≤ 1000) : rngOf [.int (c : Int)] = some (0, c) := by
  have e : rngOf [.int (c : Int)] = some (0, (c : Int).toNat) := q_rng ⟨by omega, by omega⟩
  rw [e, Int.toNat_natCast]
theorem ev8 (n : Int) (c : Nat) (at_ : atI [PyData.int 1, .int 2, .int 2, .int 3, .int 3, .int 4, .int 5, .int 6] (n % 8) = some (.int (c : Int))) : evs [dU2 opIx (dLst [dC (.int 1), dC (.int 2), dC (.int 2), dC (.int 3), dC (.int 3), dC (.int 4), dC (.int 5), dC (.int 6)]) (dCallB 2 fn__law_take [dName 0, dC (.int 8)])] [some (.brw [.int n]), some (.own ORDL), some (.own []), none, none, none] = .ok [.d (.int c)] [some (.brw [.int (n/8)]), some (.own ORDL), some (.own []), none, none, none] := by
  have c8 := fun (n : Int) (r : En) => cb0 (n := n) (s := 8) (r := r) (by decide)
  have l8 : ∀ w, lim 8 w = some w := fun w => z_lim (by decide)
  simp only [z_ob, z_om, z_b1, z_b2, z_be1, z_be2, z_bs1, z_bs2, z_bs3, z_bl1, z_bl2, z_bc1, z_bc2, z_cr1, z_cr2, z_or, z_os, z_oo, z_ol, z_oB, z_name, z_sn1, z_sn2, z_sn3, z_sn5, z_sn6, z_sn7, z_sn8, z_sn4, z_rs1, z_rs2, z_rs3, z_rs4, z_sr1, z_sr2, z_sr3, z_rss0, z_rss1, z_es, z_es1, z_es2, z_est, z_e1, z_e2, z_e4, z_se1, z_se2, z_se3, z_e5, z_nb4, z_nb5, z_nb6, z_a5, z_a6, z_a7, z_nb0, z_nb1, z_nb2, z_nb3, z_a1, z_a2, z_a3, z_a4, z_c, z_u2, z_u1, z_un, z_ev0, z_ev1, z_tup, z_lst, z_dt0, z_dt1, z_d1, z_isB, z_bt, z_bf, z_st, z_sf, z_and, z_dor, z_ite, z_not, z_no, z_chain, z_isi, z_iw1, z_iw2, z_iw3, z_isN, z_notN, z_nw1, z_nw2, z_mul, z_mw1, z_mw2, z_sl, z_po0, z_po1, z_io, z_oa, z_so1, z_so2, z_up, z_su1, z_su2, z_mut, z_mo, z_mt, z_meth, z_seq, z_next, z_asg, z_if, z_ret, z_rt, z_m1, z_m2, z_m3, z_m5, z_m6, z_m7, z_sm3, z_sm4, z_f5, z_f6, z_f7, z_k5, z_r4, z_r5, z_r6, z_m4, z_sm1, z_sm2, z_drop, z_raise, z_has, z_ho, z_seti, z_sI, z_fn, z_ent, z_f1, z_f2, z_f3, z_f4, z_k0, z_k1, z_k2, z_k3, z_k4, z_call, z_r1, z_r2, z_r3, z_callB, z_for, z_bls1, z_outR, z_fg0, z_fg1, z_lp1, z_lp2, z_lp3, z_it1, z_it2, z_rn0, z_asgT, z_tt, z_ta0, z_ta1, z_par, z_two, z_setW, List.getElem?_cons_zero, List.getElem?_cons_succ, List.set_cons_zero, List.set_cons_succ, List.map_cons, List.map_nil, List.length_cons, List.length_nil, List.cons_append, List.nil_append, List.replicate, Nat.zero_add, Nat.reduceAdd, Nat.reduceSub, if_true, List.append_nil, q_addI, q_sub, q_neg, q_cmp, q_ixL, q_ixT, q_lenL, q_lenT, q_int, q_max, q_min, q_tupL, q_lstT, q_isB, q_slL, q_slT, q_eqS, q_neS, q_tn, q_at0, q_rev, q_isNB, q_tupT, q_lstL, l8, c8, at_]
theorem schema_ok (n : Int) : ∃ (n' : Int) (cs : List PyData), Cols cs ∧ (1 ≤ cs.length ∧ cs.length ≤ 6) ∧ fn__law_schema [.brw [.int n]] = .ok (.own cs) [.brw [.int n']] := by
  have l0 : ∀ w, lim 0 w = some w := fun w => z_lim (by decide)
  have l4 : ∀ w, lim 4 w = some w := fun w => z_lim (by decide)
  obtain ⟨c, ⟨c1, c2⟩, at_⟩ := eight (n := n)
  have rg : rngOf [.int (c : Int)] = some (0, c) := rng_nat (by omega)
  obtain ⟨n', cs', o1', u3', u4', u5', j1, j2, j3⟩ := schema_loop c 0 (n / 8) [] (some (.own ORDL)) none none none (.inl rfl) rfl rfl rfl (fun c h => nomatch h) (by simpa using c2)
  have run := (for_R (tg := tgName 3) (s := schBody) (ev8 n c at_) rg).trans j3
  unfold ORDL schBody at run
  refine ⟨n', cs', j1, by rw [j2]; simp only [List.length_nil]; omega, ?_⟩
  unfold fn__law_schema dn__law_schema lp_law_schema_2 lp_law_schema_1
  simp only [z_ob, z_om, z_b1, z_b2, z_be1, z_be2, z_bs1, z_bs2, z_bs3, z_bl1, z_bl2, z_bc1, z_bc2, z_cr1, z_cr2, z_or, z_os, z_oo, z_ol, z_oB, z_name, z_sn1, z_sn2, z_sn3, z_sn5, z_sn6, z_sn7, z_sn8, z_sn4, z_rs1, z_rs2, z_rs3, z_rs4, z_sr1, z_sr2, z_sr3, z_rss0, z_rss1, z_es, z_es1, z_es2, z_est, z_e1, z_e2, z_e4, z_se1, z_se2, z_se3, z_e5, z_nb4, z_nb5, z_nb6, z_a5, z_a6, z_a7, z_nb0, z_nb1, z_nb2, z_nb3, z_a1, z_a2, z_a3, z_a4, z_c, z_u2, z_u1, z_un, z_ev0, z_ev1, z_tup, z_lst, z_dt0, z_dt1, z_d1, z_isB, z_bt, z_bf, z_st, z_sf, z_and, z_dor, z_ite, z_not, z_no, z_chain, z_isi, z_iw1, z_iw2, z_iw3, z_isN, z_notN, z_nw1, z_nw2, z_mul, z_mw1, z_mw2, z_sl, z_po0, z_po1, z_io, z_oa, z_so1, z_so2, z_up, z_su1, z_su2, z_mut, z_mo, z_mt, z_meth, z_seq, z_next, z_asg, z_if, z_ret, z_rt, z_m1, z_m2, z_m3, z_m5, z_m6, z_m7, z_sm3, z_sm4, z_f5, z_f6, z_f7, z_k5, z_r4, z_r5, z_r6, z_m4, z_sm1, z_sm2, z_drop, z_raise, z_has, z_ho, z_seti, z_sI, z_fn, z_ent, z_f1, z_f2, z_f3, z_f4, z_k0, z_k1, z_k2, z_k3, z_k4, z_call, z_r1, z_r2, z_r3, z_callB, z_for, z_bls1, z_outR, z_fg0, z_fg1, z_lp1, z_lp2, z_lp3, z_it1, z_it2, z_rn0, z_asgT, z_tt, z_ta0, z_ta1, z_par, z_two, z_setW, List.getElem?_cons_zero, List.getElem?_cons_succ, List.set_cons_zero, List.set_cons_succ, List.map_cons, List.map_nil, List.length_cons, List.length_nil, List.cons_append, List.nil_append, List.replicate, Nat.zero_add, Nat.reduceAdd, Nat.reduceSub, if_true, List.append_nil, q_addI, q_sub, q_neg, q_cmp, q_ixL, q_ixT, q_lenL, q_lenT, q_int, q_max, q_min, q_tupL, q_lstT, q_isB, q_slL, q_slT, q_eqS, q_neS, q_tn, q_at0, q_rev, q_isNB, q_tupT, q_lstL, l0, l4, run]
end Vf.Law
/-! What the program tells of schemas, rows. -/
namespace Vf.Law
open PySem PySem.Spec L2
def ColV (c : PyData) (b : Bool) : Prop := fn_is_column [.d c] = .ok (.d (.bool b)) [.d c]
def inOrd (y : PyData) : Bool := ORDL.any fun z => PyData.eqv z y
theorem in_ord {y : PyData} (h : SeqAt.shaped y = true) : opIn y dat_ORDERS = some (.d (.bool (inOrd y))) := by
  have e : inD y dat_ORDERS = some (inOrd y) := by
    show (if (SeqAt.shaped y && SeqAt.shaped dat_ORDERS) = true then some (ORDL.any fun z => PyData.eqv z y) else none) = _
    rw [h, show SeqAt.shaped dat_ORDERS = true by decide +kernel]
    rfl
  show (inD y dat_ORDERS).map _ = _
  rw [e]
  rfl
theorem bools_map (f : PyData → Bool) : ∀ xs : List PyData, bools (xs.map fun x => .bool (f x)) = some (xs.map f)
  | [] => rfl
  | x :: xs => by
    show (bools (xs.map fun x => .bool (f x))).map _ = _
    rw [bools_map f xs]
    rfl
theorem txs_map : ∀ ss : List Str, txs (ss.map PyData.str) = some ss
  | [] => rfl
  | s :: ss => by
    show (txs (ss.map PyData.str)).map _ = _
    rw [txs_map ss]
    rfl
theorem fold_nd : ∀ (xs L : List Str), (∀ x ∈ xs, x ∉ L) → xs.Nodup → (xs.foldl addD L).length = L.length + xs.length
  | [], L, _, _ => rfl
  | x :: xs, L, h, nd => by
    obtain ⟨n1, n2⟩ := List.nodup_cons.mp nd
    have e : addD L x = x :: L := if_neg (h x List.mem_cons_self)
    rw [List.foldl_cons, e, fold_nd xs (x :: L) (fun y hy z => by
      rcases List.mem_cons.mp z with z | z
      · rw [z] at hy; exact n1 hy
      · exact h y (List.mem_cons_of_mem _ hy) z) n2, List.length_cons, List.length_cons]
    omega
theorem setD_nd {ss : List Str} (h : ss.Nodup) : (setD ss).length = ss.length := by
  have q := fold_nd ss [] (fun _ _ z => nomatch z) h
  rw [List.length_nil, Nat.zero_add] at q
  exact q
theorem eqv_same (s : Str) : PyData.eqv (.str s) (.str s) = true := by simp [PyData.eqv]
theorem col_good {c : PyData} (h : GoodCol c) : ColV c true := by
  obtain ⟨ss, rfl, hs, ne⟩ := h
  have len : (ss.map PyData.str).length = ss.length := List.length_map ..
  have pos : 1 ≤ ss.length := by
    cases ss with
    | nil => exact absurd rfl ne
    | cons a b => simp
  have four := hs.few
  have nice := col_nice hs.of
  have lens : opLenSet (.tuple (ss.map PyData.str)) = some (.d (.int (setD ss).length)) := by
    show (txs (ss.map PyData.str)).bind _ = _
    rw [txs_map]
    exact if_pos (by omega)
  have lc : dLc (dName 0) [1] (tgName 1) (dC (.bool true)) el_is_column_1 [some (.d (.tuple (ss.map PyData.str))), none] = .ok (.own ((ss.map PyData.str).map fun y => .bool (inOrd y))) [some (.d (.tuple (ss.map PyData.str))), none] := by
    refine dlc_pure (src := .tuple (ss.map PyData.str)) rfl rfl rfl (by omega) fun x hx => ?_
    have e := in_ord ((nice x hx).shaped (by decide))
    unfold el_is_column_1
    simp only [z_ob, z_om, z_b1, z_b2, z_be1, z_be2, z_bs1, z_bs2, z_bs3, z_bl1, z_bl2, z_bc1, z_bc2, z_cr1, z_cr2, z_or, z_os, z_oo, z_ol, z_oB, z_name, z_sn1, z_sn2, z_sn3, z_sn5, z_sn6, z_sn7, z_sn8, z_sn4, z_rs1, z_rs2, z_rs3, z_rs4, z_sr1, z_sr2, z_sr3, z_rss0, z_rss1, z_es, z_es1, z_es2, z_est, z_e1, z_e2, z_e4, z_se1, z_se2, z_se3, z_e5, z_nb4, z_nb5, z_nb6, z_a5, z_a6, z_a7, z_nb0, z_nb1, z_nb2, z_nb3, z_a1, z_a2, z_a3, z_a4, z_c, z_u2, z_u1, z_un, z_ev0, z_ev1, z_tup, z_lst, z_dt0, z_dt1, z_d1, z_isB, z_bt, z_bf, z_st, z_sf, z_and, z_dor, z_ite, z_not, z_no, z_chain, z_isi, z_iw1, z_iw2, z_iw3, z_isN, z_notN, z_nw1, z_nw2, z_mul, z_mw1, z_mw2, z_sl, z_po0, z_po1, z_io, z_oa, z_so1, z_so2, z_up, z_su1, z_su2, z_mut, z_mo, z_mt, z_meth, z_seq, z_next, z_asg, z_if, z_ret, z_rt, z_m1, z_m2, z_m3, z_m5, z_m6, z_m7, z_sm3, z_sm4, z_f5, z_f6, z_f7, z_k5, z_r4, z_r5, z_r6, z_m4, z_sm1, z_sm2, z_drop, z_raise, z_has, z_ho, z_seti, z_sI, z_fn, z_ent, z_f1, z_f2, z_f3, z_f4, z_k0, z_k1, z_k2, z_k3, z_k4, z_call, z_r1, z_r2, z_r3, z_callB, z_for, z_bls1, z_outR, z_fg0, z_fg1, z_lp1, z_lp2, z_lp3, z_it1, z_it2, z_rn0, z_asgT, z_tt, z_ta0, z_ta1, z_par, z_two, z_setW, List.getElem?_cons_zero, List.getElem?_cons_succ, List.set_cons_zero, List.set_cons_succ, List.map_cons, List.map_nil, List.length_cons, List.length_nil, List.cons_append, List.nil_append, List.replicate, Nat.zero_add, Nat.reduceAdd, Nat.reduceSub, if_true, List.append_nil, q_addI, q_sub, q_neg, q_cmp, q_ixL, q_ixT, q_lenL, q_lenT, q_int, q_max, q_min, q_tupL, q_lstT, q_isB, q_slL, q_slT, q_eqS, q_neS, q_tn, q_at0, q_rev, q_isNB, q_tupT, q_lstL, e]
  have all : ((ss.map PyData.str).map inOrd).all id = true := by
    rw [List.all_map, List.all_map]
    refine List.all_eq_true.mpr fun o ho => ?_
    have : ∃ z ∈ ORDL, PyData.eqv z (.str o) = true := ⟨.str o, by rw [← ords_map]; exact List.mem_map.mpr ⟨o, hs.of o ho, rfl⟩, eqv_same o⟩
    exact List.any_eq_true.mpr this
  have oa : opAll [.list ((ss.map PyData.str).map fun y => .bool (inOrd y))] = some (.d (.bool true)) := by
    rw [q_all (bools_map inOrd _), all]
  have d1 : decide ((1 : Int) ≤ ((ss.map PyData.str).length : Int)) = true := decide_eq_true (by omega)
  have d2 : decide (((ss.map PyData.str).length : Int) ≤ ((0 + 1 + 1 + 1 + 1 : Nat) : Int)) = true := decide_eq_true (by omega)
  have d3 : decide (((setD ss).length : Int) = ((ss.map PyData.str).length : Int)) = true := decide_eq_true (by rw [setD_nd hs.nd, len])
  have ol : opLen [dat_ORDERS] = some (.d (.int ((0 + 1 + 1 + 1 + 1 : Nat) : Int))) := rfl
  have at_ : aTuple (.tuple (ss.map PyData.str)) = some true := rfl
  unfold ColV fn_is_column dn_is_column
  simp only [z_ob, z_om, z_b1, z_b2, z_be1, z_be2, z_bs1, z_bs2, z_bs3, z_bl1, z_bl2, z_bc1, z_bc2, z_cr1, z_cr2, z_or, z_os, z_oo, z_ol, z_oB, z_name, z_sn1, z_sn2, z_sn3, z_sn5, z_sn6, z_sn7, z_sn8, z_sn4, z_rs1, z_rs2, z_rs3, z_rs4, z_sr1, z_sr2, z_sr3, z_rss0, z_rss1, z_es, z_es1, z_es2, z_est, z_e1, z_e2, z_e4, z_se1, z_se2, z_se3, z_e5, z_nb4, z_nb5, z_nb6, z_a5, z_a6, z_a7, z_nb0, z_nb1, z_nb2, z_nb3, z_a1, z_a2, z_a3, z_a4, z_c, z_u2, z_u1, z_un, z_ev0, z_ev1, z_tup, z_lst, z_dt0, z_dt1, z_d1, z_isB, z_bt, z_bf, z_st, z_sf, z_and, z_dor, z_ite, z_not, z_no, z_chain, z_isi, z_iw1, z_iw2, z_iw3, z_isN, z_notN, z_nw1, z_nw2, z_mul, z_mw1, z_mw2, z_sl, z_po0, z_po1, z_io, z_oa, z_so1, z_so2, z_up, z_su1, z_su2, z_mut, z_mo, z_mt, z_meth, z_seq, z_next, z_asg, z_if, z_ret, z_rt, z_m1, z_m2, z_m3, z_m5, z_m6, z_m7, z_sm3, z_sm4, z_f5, z_f6, z_f7, z_k5, z_r4, z_r5, z_r6, z_m4, z_sm1, z_sm2, z_drop, z_raise, z_has, z_ho, z_seti, z_sI, z_fn, z_ent, z_f1, z_f2, z_f3, z_f4, z_k0, z_k1, z_k2, z_k3, z_k4, z_call, z_r1, z_r2, z_r3, z_callB, z_for, z_bls1, z_outR, z_fg0, z_fg1, z_lp1, z_lp2, z_lp3, z_it1, z_it2, z_rn0, z_asgT, z_tt, z_ta0, z_ta1, z_par, z_two, z_setW, List.getElem?_cons_zero, List.getElem?_cons_succ, List.set_cons_zero, List.set_cons_succ, List.map_cons, List.map_nil, List.length_cons, List.length_nil, List.cons_append, List.nil_append, List.replicate, Nat.zero_add, Nat.reduceAdd, Nat.reduceSub, if_true, List.append_nil, q_addI, q_sub, q_neg, q_cmp, q_ixL, q_ixT, q_lenL, q_lenT, q_int, q_max, q_min, q_tupL, q_lstT, q_isB, q_slL, q_slT, q_eqS, q_neS, q_tn, q_at0, q_rev, q_isNB, q_tupT, q_lstL, ol, lc, oa, lens, q_eqI, at_, Bool.not_true, Bool.not_false]
  simp only [Nat.zero_add, Nat.reduceAdd] at d2
  simp only [d1, d2, d3, z_ob, z_om, z_b1, z_b2, z_be1, z_be2, z_bs1, z_bs2, z_bs3, z_bl1, z_bl2, z_bc1, z_bc2, z_cr1, z_cr2, z_or, z_os, z_oo, z_ol, z_oB, z_name, z_sn1, z_sn2, z_sn3, z_sn5, z_sn6, z_sn7, z_sn8, z_sn4, z_rs1, z_rs2, z_rs3, z_rs4, z_sr1, z_sr2, z_sr3, z_rss0, z_rss1, z_es, z_es1, z_es2, z_est, z_e1, z_e2, z_e4, z_se1, z_se2, z_se3, z_e5, z_nb4, z_nb5, z_nb6, z_a5, z_a6, z_a7, z_nb0, z_nb1, z_nb2, z_nb3, z_a1, z_a2, z_a3, z_a4, z_c, z_u2, z_u1, z_un, z_ev0, z_ev1, z_tup, z_lst, z_dt0, z_dt1, z_d1, z_isB, z_bt, z_bf, z_st, z_sf, z_and, z_dor, z_ite, z_not, z_no, z_chain, z_isi, z_iw1, z_iw2, z_iw3, z_isN, z_notN, z_nw1, z_nw2, z_mul, z_mw1, z_mw2, z_sl, z_po0, z_po1, z_io, z_oa, z_so1, z_so2, z_up, z_su1, z_su2, z_mut, z_mo, z_mt, z_meth, z_seq, z_next, z_asg, z_if, z_ret, z_rt, z_m1, z_m2, z_m3, z_m5, z_m6, z_m7, z_sm3, z_sm4, z_f5, z_f6, z_f7, z_k5, z_r4, z_r5, z_r6, z_m4, z_sm1, z_sm2, z_drop, z_raise, z_has, z_ho, z_seti, z_sI, z_fn, z_ent, z_f1, z_f2, z_f3, z_f4, z_k0, z_k1, z_k2, z_k3, z_k4, z_call, z_r1, z_r2, z_r3, z_callB, z_for, z_bls1, z_outR, z_fg0, z_fg1, z_lp1, z_lp2, z_lp3, z_it1, z_it2, z_rn0, z_asgT, z_tt, z_ta0, z_ta1, z_par, z_two, z_setW, List.getElem?_cons_zero, List.getElem?_cons_succ, List.set_cons_zero, List.set_cons_succ, List.map_cons, List.map_nil, List.length_cons, List.length_nil, List.cons_append, List.nil_append, List.replicate, Nat.zero_add, Nat.reduceAdd, Nat.reduceSub, if_true, List.append_nil, q_addI, q_sub, q_neg, q_cmp, q_ixL, q_ixT, q_lenL, q_lenT, q_int, q_max, q_min, q_tupL, q_lstT, q_isB, q_slL, q_slT, q_eqS, q_neS, q_tn, q_at0, q_rev, q_isNB, q_tupT, q_lstL, lc, oa, lens, q_eqI, Bool.not_true, Bool.not_false]
def cbF (c : PyData) : Bool := match fn_is_column [.d c] with
  | .ok (.d (.bool b)) _ => b
  | _ => false
theorem cbF_of {c : PyData} {b : Bool} (h : ColV c b) : cbF c = b := by
  unfold cbF
  rw [h]
theorem sch_ok {xs : List PyData} (few : xs.length ≤ 1000) (h : ∀ c ∈ xs, ∃ b, ColV c b) : fn_is_schema [.d (.list xs)] = .ok (.d (.bool ((decide ((1 : Int) ≤ (xs.length : Int)) && decide ((xs.length : Int) ≤ 6)) && xs.all cbF))) [.d (.list xs)] := by
  have lc : dLc (dName 0) [1] (tgName 1) (dC (.bool true)) el_is_schema_1 [some (.d (.list xs)), none] = .ok (.own (xs.map fun y => .bool (cbF y))) [some (.d (.list xs)), none] := by
    refine dlc_pure (src := .list xs) rfl rfl rfl (by omega) fun x hx => ?_
    obtain ⟨b, hb⟩ := h x hx
    have cv : ∀ e : En, callV 1 fn_is_column [.d x] e = .ok (.d (.bool b)) e := fun e => by
      rw [z_cv rfl, show fn_is_column [.d x] = _ from hb]
      rfl
    unfold el_is_schema_1
    simp only [z_ob, z_om, z_b1, z_b2, z_be1, z_be2, z_bs1, z_bs2, z_bs3, z_bl1, z_bl2, z_bc1, z_bc2, z_cr1, z_cr2, z_or, z_os, z_oo, z_ol, z_oB, z_name, z_sn1, z_sn2, z_sn3, z_sn5, z_sn6, z_sn7, z_sn8, z_sn4, z_rs1, z_rs2, z_rs3, z_rs4, z_sr1, z_sr2, z_sr3, z_rss0, z_rss1, z_es, z_es1, z_es2, z_est, z_e1, z_e2, z_e4, z_se1, z_se2, z_se3, z_e5, z_nb4, z_nb5, z_nb6, z_a5, z_a6, z_a7, z_nb0, z_nb1, z_nb2, z_nb3, z_a1, z_a2, z_a3, z_a4, z_c, z_u2, z_u1, z_un, z_ev0, z_ev1, z_tup, z_lst, z_dt0, z_dt1, z_d1, z_isB, z_bt, z_bf, z_st, z_sf, z_and, z_dor, z_ite, z_not, z_no, z_chain, z_isi, z_iw1, z_iw2, z_iw3, z_isN, z_notN, z_nw1, z_nw2, z_mul, z_mw1, z_mw2, z_sl, z_po0, z_po1, z_io, z_oa, z_so1, z_so2, z_up, z_su1, z_su2, z_mut, z_mo, z_mt, z_meth, z_seq, z_next, z_asg, z_if, z_ret, z_rt, z_m1, z_m2, z_m3, z_m5, z_m6, z_m7, z_sm3, z_sm4, z_f5, z_f6, z_f7, z_k5, z_r4, z_r5, z_r6, z_m4, z_sm1, z_sm2, z_drop, z_raise, z_has, z_ho, z_seti, z_sI, z_fn, z_ent, z_f1, z_f2, z_f3, z_f4, z_k0, z_k1, z_k2, z_k3, z_k4, z_call, z_r1, z_r2, z_r3, z_callB, z_for, z_bls1, z_outR, z_fg0, z_fg1, z_lp1, z_lp2, z_lp3, z_it1, z_it2, z_rn0, z_asgT, z_tt, z_ta0, z_ta1, z_par, z_two, z_setW, List.getElem?_cons_zero, List.getElem?_cons_succ, List.set_cons_zero, List.set_cons_succ, List.map_cons, List.map_nil, List.length_cons, List.length_nil, List.cons_append, List.nil_append, List.replicate, Nat.zero_add, Nat.reduceAdd, Nat.reduceSub, if_true, List.append_nil, q_addI, q_sub, q_neg, q_cmp, q_ixL, q_ixT, q_lenL, q_lenT, q_int, q_max, q_min, q_tupL, q_lstT, q_isB, q_slL, q_slT, q_eqS, q_neS, q_tn, q_at0, q_rev, q_isNB, q_tupT, q_lstL, cv, cbF_of hb]
  have oa : opAll [.list (xs.map fun y => .bool (cbF y))] = some (.d (.bool (xs.all cbF))) := by
    rw [q_all (bools_map cbF _), List.all_map]
    rfl
  have at_ : aList (.list xs) = some true := rfl
  unfold fn_is_schema dn_is_schema
  cases a : decide ((1 : Int) ≤ (xs.length : Int)) with
  | false => simp only [z_ob, z_om, z_b1, z_b2, z_be1, z_be2, z_bs1, z_bs2, z_bs3, z_bl1, z_bl2, z_bc1, z_bc2, z_cr1, z_cr2, z_or, z_os, z_oo, z_ol, z_oB, z_name, z_sn1, z_sn2, z_sn3, z_sn5, z_sn6, z_sn7, z_sn8, z_sn4, z_rs1, z_rs2, z_rs3, z_rs4, z_sr1, z_sr2, z_sr3, z_rss0, z_rss1, z_es, z_es1, z_es2, z_est, z_e1, z_e2, z_e4, z_se1, z_se2, z_se3, z_e5, z_nb4, z_nb5, z_nb6, z_a5, z_a6, z_a7, z_nb0, z_nb1, z_nb2, z_nb3, z_a1, z_a2, z_a3, z_a4, z_c, z_u2, z_u1, z_un, z_ev0, z_ev1, z_tup, z_lst, z_dt0, z_dt1, z_d1, z_isB, z_bt, z_bf, z_st, z_sf, z_and, z_dor, z_ite, z_not, z_no, z_chain, z_isi, z_iw1, z_iw2, z_iw3, z_isN, z_notN, z_nw1, z_nw2, z_mul, z_mw1, z_mw2, z_sl, z_po0, z_po1, z_io, z_oa, z_so1, z_so2, z_up, z_su1, z_su2, z_mut, z_mo, z_mt, z_meth, z_seq, z_next, z_asg, z_if, z_ret, z_rt, z_m1, z_m2, z_m3, z_m5, z_m6, z_m7, z_sm3, z_sm4, z_f5, z_f6, z_f7, z_k5, z_r4, z_r5, z_r6, z_m4, z_sm1, z_sm2, z_drop, z_raise, z_has, z_ho, z_seti, z_sI, z_fn, z_ent, z_f1, z_f2, z_f3, z_f4, z_k0, z_k1, z_k2, z_k3, z_k4, z_call, z_r1, z_r2, z_r3, z_callB, z_for, z_bls1, z_outR, z_fg0, z_fg1, z_lp1, z_lp2, z_lp3, z_it1, z_it2, z_rn0, z_asgT, z_tt, z_ta0, z_ta1, z_par, z_two, z_setW, List.getElem?_cons_zero, List.getElem?_cons_succ, List.set_cons_zero, List.set_cons_succ, List.map_cons, List.map_nil, List.length_cons, List.length_nil, List.cons_append, List.nil_append, List.replicate, Nat.zero_add, Nat.reduceAdd, Nat.reduceSub, if_true, List.append_nil, q_addI, q_sub, q_neg, q_cmp, q_ixL, q_ixT, q_lenL, q_lenT, q_int, q_max, q_min, q_tupL, q_lstT, q_isB, q_slL, q_slT, q_eqS, q_neS, q_tn, q_at0, q_rev, q_isNB, q_tupT, q_lstL, at_, a, Bool.not_true, Bool.not_false, Bool.false_and]
  | true =>
    cases b : decide ((xs.length : Int) ≤ 6) with
    | false => simp only [z_ob, z_om, z_b1, z_b2, z_be1, z_be2, z_bs1, z_bs2, z_bs3, z_bl1, z_bl2, z_bc1, z_bc2, z_cr1, z_cr2, z_or, z_os, z_oo, z_ol, z_oB, z_name, z_sn1, z_sn2, z_sn3, z_sn5, z_sn6, z_sn7, z_sn8, z_sn4, z_rs1, z_rs2, z_rs3, z_rs4, z_sr1, z_sr2, z_sr3, z_rss0, z_rss1, z_es, z_es1, z_es2, z_est, z_e1, z_e2, z_e4, z_se1, z_se2, z_se3, z_e5, z_nb4, z_nb5, z_nb6, z_a5, z_a6, z_a7, z_nb0, z_nb1, z_nb2, z_nb3, z_a1, z_a2, z_a3, z_a4, z_c, z_u2, z_u1, z_un, z_ev0, z_ev1, z_tup, z_lst, z_dt0, z_dt1, z_d1, z_isB, z_bt, z_bf, z_st, z_sf, z_and, z_dor, z_ite, z_not, z_no, z_chain, z_isi, z_iw1, z_iw2, z_iw3, z_isN, z_notN, z_nw1, z_nw2, z_mul, z_mw1, z_mw2, z_sl, z_po0, z_po1, z_io, z_oa, z_so1, z_so2, z_up, z_su1, z_su2, z_mut, z_mo, z_mt, z_meth, z_seq, z_next, z_asg, z_if, z_ret, z_rt, z_m1, z_m2, z_m3, z_m5, z_m6, z_m7, z_sm3, z_sm4, z_f5, z_f6, z_f7, z_k5, z_r4, z_r5, z_r6, z_m4, z_sm1, z_sm2, z_drop, z_raise, z_has, z_ho, z_seti, z_sI, z_fn, z_ent, z_f1, z_f2, z_f3, z_f4, z_k0, z_k1, z_k2, z_k3, z_k4, z_call, z_r1, z_r2, z_r3, z_callB, z_for, z_bls1, z_outR, z_fg0, z_fg1, z_lp1, z_lp2, z_lp3, z_it1, z_it2, z_rn0, z_asgT, z_tt, z_ta0, z_ta1, z_par, z_two, z_setW, List.getElem?_cons_zero, List.getElem?_cons_succ, List.set_cons_zero, List.set_cons_succ, List.map_cons, List.map_nil, List.length_cons, List.length_nil, List.cons_append, List.nil_append, List.replicate, Nat.zero_add, Nat.reduceAdd, Nat.reduceSub, if_true, List.append_nil, q_addI, q_sub, q_neg, q_cmp, q_ixL, q_ixT, q_lenL, q_lenT, q_int, q_max, q_min, q_tupL, q_lstT, q_isB, q_slL, q_slT, q_eqS, q_neS, q_tn, q_at0, q_rev, q_isNB, q_tupT, q_lstL, at_, a, b, Bool.not_true, Bool.not_false, Bool.false_and, Bool.and_false]
    | true => simp only [z_ob, z_om, z_b1, z_b2, z_be1, z_be2, z_bs1, z_bs2, z_bs3, z_bl1, z_bl2, z_bc1, z_bc2, z_cr1, z_cr2, z_or, z_os, z_oo, z_ol, z_oB, z_name, z_sn1, z_sn2, z_sn3, z_sn5, z_sn6, z_sn7, z_sn8, z_sn4, z_rs1, z_rs2, z_rs3, z_rs4, z_sr1, z_sr2, z_sr3, z_rss0, z_rss1, z_es, z_es1, z_es2, z_est, z_e1, z_e2, z_e4, z_se1, z_se2, z_se3, z_e5, z_nb4, z_nb5, z_nb6, z_a5, z_a6, z_a7, z_nb0, z_nb1, z_nb2, z_nb3, z_a1, z_a2, z_a3, z_a4, z_c, z_u2, z_u1, z_un, z_ev0, z_ev1, z_tup, z_lst, z_dt0, z_dt1, z_d1, z_isB, z_bt, z_bf, z_st, z_sf, z_and, z_dor, z_ite, z_not, z_no, z_chain, z_isi, z_iw1, z_iw2, z_iw3, z_isN, z_notN, z_nw1, z_nw2, z_mul, z_mw1, z_mw2, z_sl, z_po0, z_po1, z_io, z_oa, z_so1, z_so2, z_up, z_su1, z_su2, z_mut, z_mo, z_mt, z_meth, z_seq, z_next, z_asg, z_if, z_ret, z_rt, z_m1, z_m2, z_m3, z_m5, z_m6, z_m7, z_sm3, z_sm4, z_f5, z_f6, z_f7, z_k5, z_r4, z_r5, z_r6, z_m4, z_sm1, z_sm2, z_drop, z_raise, z_has, z_ho, z_seti, z_sI, z_fn, z_ent, z_f1, z_f2, z_f3, z_f4, z_k0, z_k1, z_k2, z_k3, z_k4, z_call, z_r1, z_r2, z_r3, z_callB, z_for, z_bls1, z_outR, z_fg0, z_fg1, z_lp1, z_lp2, z_lp3, z_it1, z_it2, z_rn0, z_asgT, z_tt, z_ta0, z_ta1, z_par, z_two, z_setW, List.getElem?_cons_zero, List.getElem?_cons_succ, List.set_cons_zero, List.set_cons_succ, List.map_cons, List.map_nil, List.length_cons, List.length_nil, List.cons_append, List.nil_append, List.replicate, Nat.zero_add, Nat.reduceAdd, Nat.reduceSub, if_true, List.append_nil, q_addI, q_sub, q_neg, q_cmp, q_ixL, q_ixT, q_lenL, q_lenT, q_int, q_max, q_min, q_tupL, q_lstT, q_isB, q_slL, q_slT, q_eqS, q_neS, q_tn, q_at0, q_rev, q_isNB, q_tupT, q_lstL, at_, a, b, lc, oa, Bool.not_true, Bool.not_false, Bool.true_and]
def BadS (x : PyData) : Prop := fn_is_schema [.d x] = .ok (.d (.bool false)) [.d x]
theorem sch_good {cs : List PyData} (h : Cols cs) (l : 1 ≤ cs.length ∧ cs.length ≤ 6) : fn_is_schema [.d (.list cs)] = .ok (.d (.bool true)) [.d (.list cs)] := by
  rw [sch_ok (by omega) fun c hc => ⟨true, col_good (h c hc)⟩, decide_eq_true (by omega), decide_eq_true (by omega), List.all_eq_true.mpr fun c hc => cbF_of (col_good (h c hc))]
  rfl
theorem sch_bad {xs : List PyData} (few : xs.length ≤ 1000) (h : ∀ c ∈ xs, ∃ b, ColV c b) {c : PyData} (hc : c ∈ xs) (hb : ColV c false) : BadS (.list xs) := by
  have e : xs.all cbF = false := by
    refine Bool.eq_false_iff.mpr fun z => ?_
    have q := List.all_eq_true.mp z c hc
    rw [cbF_of hb] at q
    cases q
  unfold BadS
  rw [sch_ok few h, e, Bool.and_false]
theorem check_good {x : PyData} (h : fn_is_schema [.d x] = .ok (.d (.bool true)) [.d x]) : fn_check_schema [.d x] = .ok (.d .none) [.d x] := by
  have cv : ∀ e : En, callV 1 fn_is_schema [.d x] e = .ok (.d (.bool true)) e := fun e => by
    rw [z_cv rfl, h]
    rfl
  unfold fn_check_schema dn_check_schema
  simp only [z_ob, z_om, z_b1, z_b2, z_be1, z_be2, z_bs1, z_bs2, z_bs3, z_bl1, z_bl2, z_bc1, z_bc2, z_cr1, z_cr2, z_or, z_os, z_oo, z_ol, z_oB, z_name, z_sn1, z_sn2, z_sn3, z_sn5, z_sn6, z_sn7, z_sn8, z_sn4, z_rs1, z_rs2, z_rs3, z_rs4, z_sr1, z_sr2, z_sr3, z_rss0, z_rss1, z_es, z_es1, z_es2, z_est, z_e1, z_e2, z_e4, z_se1, z_se2, z_se3, z_e5, z_nb4, z_nb5, z_nb6, z_a5, z_a6, z_a7, z_nb0, z_nb1, z_nb2, z_nb3, z_a1, z_a2, z_a3, z_a4, z_c, z_u2, z_u1, z_un, z_ev0, z_ev1, z_tup, z_lst, z_dt0, z_dt1, z_d1, z_isB, z_bt, z_bf, z_st, z_sf, z_and, z_dor, z_ite, z_not, z_no, z_chain, z_isi, z_iw1, z_iw2, z_iw3, z_isN, z_notN, z_nw1, z_nw2, z_mul, z_mw1, z_mw2, z_sl, z_po0, z_po1, z_io, z_oa, z_so1, z_so2, z_up, z_su1, z_su2, z_mut, z_mo, z_mt, z_meth, z_seq, z_next, z_asg, z_if, z_ret, z_rt, z_m1, z_m2, z_m3, z_m5, z_m6, z_m7, z_sm3, z_sm4, z_f5, z_f6, z_f7, z_k5, z_r4, z_r5, z_r6, z_m4, z_sm1, z_sm2, z_drop, z_raise, z_has, z_ho, z_seti, z_sI, z_fn, z_ent, z_f1, z_f2, z_f3, z_f4, z_k0, z_k1, z_k2, z_k3, z_k4, z_call, z_r1, z_r2, z_r3, z_callB, z_for, z_bls1, z_outR, z_fg0, z_fg1, z_lp1, z_lp2, z_lp3, z_it1, z_it2, z_rn0, z_asgT, z_tt, z_ta0, z_ta1, z_par, z_two, z_setW, List.getElem?_cons_zero, List.getElem?_cons_succ, List.set_cons_zero, List.set_cons_succ, List.map_cons, List.map_nil, List.length_cons, List.length_nil, List.cons_append, List.nil_append, List.replicate, Nat.zero_add, Nat.reduceAdd, Nat.reduceSub, if_true, List.append_nil, q_addI, q_sub, q_neg, q_cmp, q_ixL, q_ixT, q_lenL, q_lenT, q_int, q_max, q_min, q_tupL, q_lstT, q_isB, q_slL, q_slT, q_eqS, q_neS, q_tn, q_at0, q_rev, q_isNB, q_tupT, q_lstL, cv, Bool.not_true]
theorem check_bad {x : PyData} (h : BadS x) : fn_check_schema [.d x] = .err "NoSchema" [.d x] := by
  have cv : ∀ e : En, callV 1 fn_is_schema [.d x] e = .ok (.d (.bool false)) e := fun e => by
    rw [z_cv rfl, show fn_is_schema [.d x] = _ from h]
    rfl
  unfold fn_check_schema dn_check_schema
  simp only [z_ob, z_om, z_b1, z_b2, z_be1, z_be2, z_bs1, z_bs2, z_bs3, z_bl1, z_bl2, z_bc1, z_bc2, z_cr1, z_cr2, z_or, z_os, z_oo, z_ol, z_oB, z_name, z_sn1, z_sn2, z_sn3, z_sn5, z_sn6, z_sn7, z_sn8, z_sn4, z_rs1, z_rs2, z_rs3, z_rs4, z_sr1, z_sr2, z_sr3, z_rss0, z_rss1, z_es, z_es1, z_es2, z_est, z_e1, z_e2, z_e4, z_se1, z_se2, z_se3, z_e5, z_nb4, z_nb5, z_nb6, z_a5, z_a6, z_a7, z_nb0, z_nb1, z_nb2, z_nb3, z_a1, z_a2, z_a3, z_a4, z_c, z_u2, z_u1, z_un, z_ev0, z_ev1, z_tup, z_lst, z_dt0, z_dt1, z_d1, z_isB, z_bt, z_bf, z_st, z_sf, z_and, z_dor, z_ite, z_not, z_no, z_chain, z_isi, z_iw1, z_iw2, z_iw3, z_isN, z_notN, z_nw1, z_nw2, z_mul, z_mw1, z_mw2, z_sl, z_po0, z_po1, z_io, z_oa, z_so1, z_so2, z_up, z_su1, z_su2, z_mut, z_mo, z_mt, z_meth, z_seq, z_next, z_asg, z_if, z_ret, z_rt, z_m1, z_m2, z_m3, z_m5, z_m6, z_m7, z_sm3, z_sm4, z_f5, z_f6, z_f7, z_k5, z_r4, z_r5, z_r6, z_m4, z_sm1, z_sm2, z_drop, z_raise, z_has, z_ho, z_seti, z_sI, z_fn, z_ent, z_f1, z_f2, z_f3, z_f4, z_k0, z_k1, z_k2, z_k3, z_k4, z_call, z_r1, z_r2, z_r3, z_callB, z_for, z_bls1, z_outR, z_fg0, z_fg1, z_lp1, z_lp2, z_lp3, z_it1, z_it2, z_rn0, z_asgT, z_tt, z_ta0, z_ta1, z_par, z_two, z_setW, List.getElem?_cons_zero, List.getElem?_cons_succ, List.set_cons_zero, List.set_cons_succ, List.map_cons, List.map_nil, List.length_cons, List.length_nil, List.cons_append, List.nil_append, List.replicate, Nat.zero_add, Nat.reduceAdd, Nat.reduceSub, if_true, List.append_nil, q_addI, q_sub, q_neg, q_cmp, q_ixL, q_ixT, q_lenL, q_lenT, q_int, q_max, q_min, q_tupL, q_lstT, q_isB, q_slL, q_slT, q_eqS, q_neS, q_tn, q_at0, q_rev, q_isNB, q_tupT, q_lstL, cv, Bool.not_false]
end Vf.Law
/-! Words, goodness. -/
namespace Vf.Law
open PySem PySem.Spec L2
theorem z_try {s : DS} {cat : Str → Option Bool} {i j : Nat} {e : En} : dTry s cat i j e = catchO (s e) cat i j := (rfl)
theorem z_ct {cat : Str → Option Bool} {i j : Nat} {e : En} {c : Str} (h : cat c = some true) : catchO (.err c e) cat i j = optS ((setW e i (.exc c)).bind fun e2 => (setW e2 j (.exc c)).bind fun e3 => if i = j then none else some (e3.set i none)) := by
  simp only [catchO, h]
/-! ### pieces -/
theorem cut_len {xs : List PyData} {lo hi : Option Int} : (cutD xs lo hi).length ≤ xs.length := by
  unfold cutD
  exact Nat.le_trans (List.length_take_le' ..) (by rw [List.length_drop]; omega)
theorem cut_mem {xs : List PyData} {lo hi : Option Int} {x : PyData} (h : x ∈ cutD xs lo hi) : x ∈ xs := List.mem_of_mem_drop (List.mem_of_mem_take h)
theorem cut_last {xs : List PyData} (h : 1 ≤ xs.length) : (cutD xs none (some (-1))).length = xs.length - 1 := by
  have a : HT.sIx xs.length 0 none = 0 := rfl
  have b : HT.sIx xs.length xs.length (some (-1)) = xs.length - 1 := by
    show (if (-1 : Int) < 0 then ((-1 : Int) + (xs.length : Int)).toNat else min (-1 : Int).toNat xs.length) = _
    rw [if_pos (by decide)]
    omega
  unfold cutD
  rw [a, b, List.drop_zero, List.length_take]
  omega
theorem good_nice {c : PyData} (h : GoodCol c) : Nice 1 59 c := by
  obtain ⟨ss, rfl, hs, _⟩ := h
  exact nice_tup (n := 4) (col_nice hs.of) (by rw [List.length_map]; exact hs.few)
end Vf.Law
/-! The law's flat rules. -/
namespace Vf.Law
open PySem PySem.Spec L2
theorem call_val {k : Nat} {F : FD} {ws us : List Wv} {x : PyData} (h : (ws.length == k && ws.all isDat) = true) (hv : F ws = .ok (.d x) us) (e : En) : callV k F ws e = .ok (.d x) e := by
  rw [z_cv h, hv]
  rfl
theorem call_own {k : Nat} {F : FD} {ws us : List Wv} {xs : List PyData} (h : (ws.length == k && ws.all isDat) = true) (hv : F ws = .ok (.own xs) us) (e : En) : callV k F ws e = .ok (.own xs) e := by
  rw [z_cv h, hv]
  rfl
theorem call_err {k : Nat} {F : FD} {ws us : List Wv} {c : Str} (h : (ws.length == k && ws.all isDat) = true) (hv : F ws = .err c us) (e : En) : callV k F ws e = .err c e := by
  rw [z_cv h, hv]
  rfl
theorem cbB {k : Nat} {F : FD} {ws us : List Wv} {xs ys : List PyData} {v : Wv} {r : En} (h : ((Wv.loc 0 :: ws).length == k && ws.all isDat) = true) (hv : F (.brw xs :: ws) = .ok v (.brw ys :: us)) (dv : isDat v = true ∨ ∃ zs, v = .own zs) :
    callB k F (.loc 0 :: ws) (some (.brw xs) :: r) = .ok v (some (.brw ys) :: r) := z_cb (xs := xs) (ys := ys) h rfl hv dv rfl
theorem cbO {k i : Nat} {F : FD} {ws us : List Wv} {xs ys : List PyData} {v : Wv} {e : En} (h : ((Wv.loc i :: ws).length == k && ws.all isDat) = true) (he : e[i]? = some (some (.own xs))) (hv : F (.brw xs :: ws) = .ok v (.brw ys :: us)) (dv : isDat v = true ∨ ∃ zs, v = .own zs) :
    callB k F (.loc i :: ws) e = .ok v (e.set i (some (.own ys))) := z_cb (xs := xs) (ys := ys) h (by rw [z_oa, he]; rfl) hv dv (by rw [z_up, he]; rfl)
theorem z_lg {vs : List Nat} {tg : PyData → En → Option En} {t el : DE} {x : PyData} {xs acc : List PyData} {e : En} : lcGo vs tg t el (x :: xs) e acc = (tg x e).bind fun e1 => (okR (t e1)).bind fun p => (isB (rs p.2 p.1)).bind fun b =>
      bif b then (okR (esR (el p.2))).bind fun q => (dat1 q.1).bind fun y => if acc.length ≤ 1000000 then lcGo vs tg t el xs (wpE q.2 vs) (acc ++ [y]) else none
      else lcGo vs tg t el xs (wpE p.2 vs) acc := (rfl)
theorem z_w0 {e : En} : wpE e [] = e := (rfl)
theorem z_w1 {e : En} {v : Nat} {vs : List Nat} : wpE e (v :: vs) = (wpE e vs).set v none := (rfl)
theorem z_dlc {f el t : DE} {vs : List Nat} {tg : PyData → En → Option En} {e e1 : En} {x : PyData} {xs : List PyData} (h : esR (f e) = .ok (.d x) e1) (no : noOwn e1 vs = true) (hi : items x = some xs) :
    dLc f vs tg t el e = outC (lcGo vs tg t el xs (wpE e1 vs) []) e1 vs := by
  unfold dLc
  rw [h, z_b1, no, cond_true, z_d1, z_ob, hi, z_ob]
abbrev nI (c : Nat) : PyData := .int (c : Int)
def nL (cs : List Nat) : List PyData := cs.map nI
theorem nL_len {cs : List Nat} : (nL cs).length = cs.length := List.length_map ..
theorem nL_app {a b : List Nat} : nL a ++ nL b = nL (a ++ b) := (List.map_append ..).symm
theorem nL_one {c : Nat} : [nI c] = nL [c] := rfl
theorem nL_nil : nL [] = [] := rfl
theorem nL_cons {c : Nat} {cs : List Nat} : nL (c :: cs) = nI c :: nL cs := rfl
theorem nL_take {cs : List Nat} {k : Nat} : (nL cs).take k = nL (cs.take k) := (List.map_take ..).symm
theorem nL_get {cs : List Nat} {k : Nat} (h : k < cs.length) : (nL cs)[k]? = some (nI cs[k]) := by
  show (cs.map nI)[k]? = _
  rw [List.getElem?_map, List.getElem?_eq_getElem h]
  rfl
theorem take_lt {n s : Int} (h : 0 < s) : 0 ≤ n % s ∧ n % s < s := ⟨Int.emod_nonneg _ (by omega), Int.emod_lt_of_pos _ h⟩
/-- a digit as a number -/
theorem dig {n : Int} {s : Nat} (h : 0 < s) : ∃ d : Nat, d < s ∧ n % (s : Int) = (d : Int) := by
  obtain ⟨a, b⟩ := take_lt (n := n) (s := (s : Int)) (by omega)
  exact ⟨(n % (s : Int)).toNat, by omega, by omega⟩
theorem pickL {L : List PyData} {k : Nat} (h : L.length = k) (p : 0 < k) {n : Int} : ∃ x ∈ L, atI L (n % (k : Int)) = some x := by
  obtain ⟨d, lt, e⟩ := dig (n := n) p
  exact ⟨L[d]'(by omega), List.getElem_mem _, by rw [e]; exact q_at (List.getElem?_eq_getElem (by omega))⟩
theorem at_last {L : List PyData} (p : 0 < L.length) : ∃ x ∈ L, atI L (-1) = some x := by
  refine ⟨L[L.length - 1]'(by omega), List.getElem_mem _, ?_⟩
  unfold atI ixN
  rw [if_neg (by omega), if_pos (by omega)]
  have e : ((-1 : Int) + (L.length : Int)).toNat = L.length - 1 := by omega
  rw [e]
  exact List.getElem?_eq_getElem (by omega)
theorem at_pos {L : List PyData} {i : Int} (h0 : 0 ≤ i) (h1 : i < (L.length : Int)) : ∃ x ∈ L, atI L i = some x := by
  obtain ⟨n, rfl⟩ : ∃ n : Nat, i = (n : Int) := ⟨i.toNat, by omega⟩
  exact ⟨L[n]'(by omega), List.getElem_mem _, q_at (List.getElem?_eq_getElem (by omega))⟩
/-! ### an order of the columns -/
theorem order_loop (M : PyData) : ∀ (m lo : Nat) (n : Int) (cs : List Nat) (u : Option Wv), notBrw (some u) = true → cs.Perm (List.range lo) → lo + m ≤ 6 →
    ∃ (n' : Int) (cs' : List Nat) (u' : Option Wv), cs'.Perm (List.range (lo + m)) ∧ forGo (tgName 3) lp_law_order_of_1 (rngD (lo : Int) m) [some (.brw [.int n]), some (.d M), some (.own (nL cs)), u] = .nx [some (.brw [.int n']), some (.d M), some (.own (nL cs')), u']
  | 0, lo, n, cs, u, hu, hp, _ => ⟨n, cs, u, hp, rfl⟩
  | m + 1, lo, n, cs, u, hu, hp, few => by
    have hl : cs.length = lo := by rw [hp.length_eq, List.length_range]
    have c1 := fun (n : Int) (r : En) => cb0 (n := n) (s := (lo : Int) + 1) (r := r) (by omega)
    obtain ⟨i, hi⟩ : ∃ i : Int, i = n % ((lo : Int) + 1) := ⟨_, rfl⟩
    have i0 : 0 ≤ i := by rw [hi]; exact Int.emod_nonneg _ (by omega)
    have i1 : i < (lo : Int) + 1 := by rw [hi]; exact Int.emod_lt_of_pos _ (by omega)
    have len : (nL cs).length = lo := by rw [nL_len, hl]
    have ins : opIns (nL cs) [.int i, .int (lo : Int)] = some (nL (cs.take i.toNat ++ [lo] ++ cs.drop i.toNat), .none) := by
      have e : nL (cs.take i.toNat ++ [lo] ++ cs.drop i.toNat) = (nL cs).take i.toNat ++ [nI lo] ++ (nL cs).drop i.toNat := by
        unfold nL
        rw [List.map_append, List.map_append, List.map_take, List.map_drop]
        rfl
      rw [e]
      exact if_pos ⟨by rw [len]; omega, i0, by omega⟩
    have perm : (cs.take i.toNat ++ [lo] ++ cs.drop i.toNat).Perm (List.range (lo + 1)) := by
      have a : (cs.take i.toNat ++ [lo] ++ cs.drop i.toNat).Perm (lo :: (cs.take i.toNat ++ cs.drop i.toNat)) := by
        rw [List.append_assoc]
        exact List.perm_middle
      rw [List.take_append_drop] at a
      rw [List.range_succ]
      exact a.trans ((hp.cons lo).trans (List.perm_append_singleton lo _).symm)
    obtain ⟨n', cs', u', h1, h2⟩ := order_loop M m (lo + 1) (n / ((lo : Int) + 1)) _ (some (.d (.int (lo : Int)))) rfl perm (by omega)
    refine ⟨n', cs', u', by rw [show lo + (m + 1) = lo + 1 + m by omega]; exact h1, ?_⟩
    rw [z_rn1]
    unfold lp_law_order_of_1
    simp only [z_ob, z_om, z_b1, z_b2, z_be1, z_be2, z_bs1, z_bs2, z_bs3, z_bl1, z_bl2, z_bc1, z_bc2, z_cr1, z_cr2, z_or, z_os, z_oo, z_ol, z_oB, z_name, z_sn1, z_sn2, z_sn3, z_sn5, z_sn6, z_sn7, z_sn8, z_sn4, z_rs1, z_rs2, z_rs3, z_rs4, z_sr1, z_sr2, z_sr3, z_rss0, z_rss1, z_es, z_es1, z_es2, z_est, z_e1, z_e2, z_e4, z_se1, z_se2, z_se3, z_e5, z_nb4, z_nb5, z_nb6, z_a5, z_a6, z_a7, z_nb0, z_nb1, z_nb2, z_nb3, z_a1, z_a2, z_a3, z_a4, z_c, z_u2, z_u1, z_un, z_ev0, z_ev1, z_tup, z_lst, z_dt0, z_dt1, z_d1, z_isB, z_bt, z_bf, z_st, z_sf, z_and, z_dor, z_ite, z_not, z_no, z_chain, z_isi, z_iw1, z_iw2, z_iw3, z_isN, z_notN, z_nw1, z_nw2, z_mul, z_mw1, z_mw2, z_sl, z_po0, z_po1, z_io, z_oa, z_so1, z_so2, z_up, z_su1, z_su2, z_mut, z_mo, z_mt, z_meth, z_seq, z_next, z_asg, z_if, z_ret, z_rt, z_m1, z_m2, z_m3, z_m5, z_m6, z_m7, z_sm3, z_sm4, z_f5, z_f6, z_f7, z_k5, z_r4, z_r5, z_r6, z_m4, z_sm1, z_sm2, z_drop, z_raise, z_has, z_ho, z_seti, z_sI, z_fn, z_ent, z_f1, z_f2, z_f3, z_f4, z_k0, z_k1, z_k2, z_k3, z_k4, z_call, z_r1, z_r2, z_r3, z_callB, z_for, z_bls1, z_outR, z_fg0, z_fg1, z_lp1, z_lp2, z_lp3, z_it1, z_it2, z_rn0, z_asgT, z_tt, z_ta0, z_ta1, z_par, z_two, z_setW, List.getElem?_cons_zero, List.getElem?_cons_succ, List.set_cons_zero, List.set_cons_succ, List.map_cons, List.map_nil, List.length_cons, List.length_nil, List.cons_append, List.nil_append, List.replicate, Nat.zero_add, Nat.reduceAdd, Nat.reduceSub, if_true, List.append_nil, q_addI, q_sub, q_neg, q_cmp, q_ixL, q_ixT, q_lenL, q_lenT, q_int, q_max, q_min, q_tupL, q_lstT, q_isB, q_slL, q_slT, q_eqS, q_neS, q_tn, q_at0, q_rev, q_isNB, q_tupT, q_lstL, hu, c1, ← hi, ins]
    exact h2
theorem order_ok (n : Int) (m : Nat) (few : m ≤ 6) : ∃ (n' : Int) (cs : List Nat), cs.Perm (List.range m) ∧ fn__law_order_of [.brw [.int n], .d (nI m)] = .ok (.own (nL cs)) [.brw [.int n'], .d (nI m)] := by
  have l0 : ∀ w, lim 0 w = some w := fun w => z_lim (by decide)
  obtain ⟨n', cs, u', h1, h2⟩ := order_loop (nI m) m 0 n [] none rfl (List.Perm.refl _) (by omega)
  rw [Nat.zero_add] at h1
  refine ⟨n', cs, h1, ?_⟩
  have run := (for_R (fs := [dName 1]) (e := [some (.brw [.int n]), some (.d (nI m)), some (.own []), none]) (tg := tgName 3) (s := lp_law_order_of_1) rfl (rng_nat (by omega : m ≤ 1000))).trans h2
  unfold fn__law_order_of dn__law_order_of
  simp only [z_ob, z_om, z_b1, z_b2, z_be1, z_be2, z_bs1, z_bs2, z_bs3, z_bl1, z_bl2, z_bc1, z_bc2, z_cr1, z_cr2, z_or, z_os, z_oo, z_ol, z_oB, z_name, z_sn1, z_sn2, z_sn3, z_sn5, z_sn6, z_sn7, z_sn8, z_sn4, z_rs1, z_rs2, z_rs3, z_rs4, z_sr1, z_sr2, z_sr3, z_rss0, z_rss1, z_es, z_es1, z_es2, z_est, z_e1, z_e2, z_e4, z_se1, z_se2, z_se3, z_e5, z_nb4, z_nb5, z_nb6, z_a5, z_a6, z_a7, z_nb0, z_nb1, z_nb2, z_nb3, z_a1, z_a2, z_a3, z_a4, z_c, z_u2, z_u1, z_un, z_ev0, z_ev1, z_tup, z_lst, z_dt0, z_dt1, z_d1, z_isB, z_bt, z_bf, z_st, z_sf, z_and, z_dor, z_ite, z_not, z_no, z_chain, z_isi, z_iw1, z_iw2, z_iw3, z_isN, z_notN, z_nw1, z_nw2, z_mul, z_mw1, z_mw2, z_sl, z_po0, z_po1, z_io, z_oa, z_so1, z_so2, z_up, z_su1, z_su2, z_mut, z_mo, z_mt, z_meth, z_seq, z_next, z_asg, z_if, z_ret, z_rt, z_m1, z_m2, z_m3, z_m5, z_m6, z_m7, z_sm3, z_sm4, z_f5, z_f6, z_f7, z_k5, z_r4, z_r5, z_r6, z_m4, z_sm1, z_sm2, z_drop, z_raise, z_has, z_ho, z_seti, z_sI, z_fn, z_ent, z_f1, z_f2, z_f3, z_f4, z_k0, z_k1, z_k2, z_k3, z_k4, z_call, z_r1, z_r2, z_r3, z_callB, z_for, z_bls1, z_outR, z_fg0, z_fg1, z_lp1, z_lp2, z_lp3, z_it1, z_it2, z_rn0, z_asgT, z_tt, z_ta0, z_ta1, z_par, z_two, z_setW, List.getElem?_cons_zero, List.getElem?_cons_succ, List.set_cons_zero, List.set_cons_succ, List.map_cons, List.map_nil, List.length_cons, List.length_nil, List.cons_append, List.nil_append, List.replicate, Nat.zero_add, Nat.reduceAdd, Nat.reduceSub, if_true, List.append_nil, q_addI, q_sub, q_neg, q_cmp, q_ixL, q_ixT, q_lenL, q_lenT, q_int, q_max, q_min, q_tupL, q_lstT, q_isB, q_slL, q_slT, q_eqS, q_neS, q_tn, q_at0, q_rev, q_isNB, q_tupT, q_lstL, l0, run]
/-! ### steps -/
def colS (cs : List PyData) (c : Nat) (ss : List Str) : Prop := cs[c]? = some (.tuple (ss.map PyData.str)) ∧ ColS ss ∧ ss ≠ []
theorem col_at {cs : List PyData} (h : Cols cs) {c : Nat} (lt : c < cs.length) : ∃ ss, colS cs c ss := by
  obtain ⟨ss, e, hs, ne⟩ := h cs[c] (List.getElem_mem lt)
  exact ⟨ss, by rw [List.getElem?_eq_getElem lt, e], hs, ne⟩
structure StepS (cs : List PyData) (p : Nat × Str) : Prop where
  lt : p.1 < cs.length
  at_ : ∃ ss, colS cs p.1 ss ∧ p.2 ∈ ss
abbrev sD (p : Nat × Str) : PyData := .tuple [nI p.1, .str p.2]
abbrev fD (fs : List (Nat × Str)) : List PyData := fs.map sD
structure FlatS (cs : List PyData) (fs : List (Nat × Str)) : Prop where
  nd : (fs.map (·.1)).Nodup
  st : ∀ p ∈ fs, StepS cs p
  few : fs.length ≤ 6
theorem pick {ss : List Str} (ne : ss ≠ []) {n : Int} : ∃ o ∈ ss, atI (ss.map PyData.str) (n % ((ss.map PyData.str).length : Int)) = some (.str o) := by
  have pos : 0 < (ss.map PyData.str).length := by
    rw [List.length_map]
    cases ss with
    | nil => exact absurd rfl ne
    | cons a b => simp
  obtain ⟨d, lt, e⟩ := dig (n := n) pos
  rw [List.length_map] at lt
  exact ⟨ss[d], List.getElem_mem lt, by rw [e]; exact q_at (by rw [List.getElem?_map, List.getElem?_eq_getElem lt]; rfl)⟩
theorem flat_loop {cs : List PyData} (hc : Cols cs) (O : PyData) : ∀ (l : List Nat) (n : Int) (acc : List PyData), (∀ c ∈ l, c < cs.length) → acc.length + l.length ≤ 1000 → ∃ (n' : Int) (fs : List (Nat × Str)), fs.map (·.1) = l ∧ (∀ p ∈ fs, StepS cs p) ∧
    lcGo [3] (tgName 3) (dC (.bool true)) el_law_flat_1 (nL l) [some (.brw [.int n]), some (.d (.list cs)), some (.d O), none] acc = some (acc ++ fD fs, [some (.brw [.int n']), some (.d (.list cs)), some (.d O), none])
  | [], n, acc, _, _ => ⟨n, [], rfl, fun _ h => (nomatch h), by show some (acc, _) = some (acc ++ [], _); rw [List.append_nil]⟩
  | c :: l, n, acc, lt, few => by
    have l1 := lt c List.mem_cons_self
    obtain ⟨ss, ec, hs, ne⟩ := col_at hc l1
    obtain ⟨o, ho, at_⟩ := pick (n := n) ne
    have len1 : 0 < (ss.map PyData.str).length := by
      rw [List.length_map]
      cases ss with
      | nil => exact absurd rfl ne
      | cons a b => simp
    have len2 : (ss.map PyData.str).length ≤ 4 := by rw [List.length_map]; exact hs.few
    have tk := fun (r : En) => cb0 (n := n) (s := ((ss.map PyData.str).length : Int)) (r := r) (by omega)
    have ac : atI cs (c : Int) = some (.tuple (ss.map PyData.str)) := q_at ec
    rw [List.length_cons] at few
    obtain ⟨n', fs, h1, h2, h3⟩ := flat_loop hc O l (n / ((ss.map PyData.str).length : Int)) (acc ++ [sD (c, o)]) (fun x hx => lt x (List.mem_cons_of_mem _ hx)) (by rw [List.length_append]; simp only [List.length_cons, List.length_nil]; omega)
    refine ⟨n', (c, o) :: fs, by rw [List.map_cons, h1], fun p hp => ?_, ?_⟩
    · rcases List.mem_cons.mp hp with z | z
      · rw [z]; exact ⟨l1, ss, ⟨ec, hs, ne⟩, ho⟩
      · exact h2 p z
    · have lta : acc.length ≤ 1000000 := by omega
      have l2 : ∀ w, lim 2 w = some w := fun w => z_lim (by decide)
      unfold fD
      rw [nL_cons, z_lg]
      unfold el_law_flat_1
      simp only [z_ob, z_om, z_b1, z_b2, z_be1, z_be2, z_bs1, z_bs2, z_bs3, z_bl1, z_bl2, z_bc1, z_bc2, z_cr1, z_cr2, z_or, z_os, z_oo, z_ol, z_oB, z_name, z_sn1, z_sn2, z_sn3, z_sn5, z_sn6, z_sn7, z_sn8, z_sn4, z_rs1, z_rs2, z_rs3, z_rs4, z_sr1, z_sr2, z_sr3, z_rss0, z_rss1, z_es, z_es1, z_es2, z_est, z_e1, z_e2, z_e4, z_se1, z_se2, z_se3, z_e5, z_nb4, z_nb5, z_nb6, z_a5, z_a6, z_a7, z_nb0, z_nb1, z_nb2, z_nb3, z_a1, z_a2, z_a3, z_a4, z_c, z_u2, z_u1, z_un, z_ev0, z_ev1, z_tup, z_lst, z_dt0, z_dt1, z_d1, z_isB, z_bt, z_bf, z_st, z_sf, z_and, z_dor, z_ite, z_not, z_no, z_chain, z_isi, z_iw1, z_iw2, z_iw3, z_isN, z_notN, z_nw1, z_nw2, z_mul, z_mw1, z_mw2, z_sl, z_po0, z_po1, z_io, z_oa, z_so1, z_so2, z_up, z_su1, z_su2, z_mut, z_mo, z_mt, z_meth, z_seq, z_next, z_asg, z_if, z_ret, z_rt, z_m1, z_m2, z_m3, z_m5, z_m6, z_m7, z_sm3, z_sm4, z_f5, z_f6, z_f7, z_k5, z_r4, z_r5, z_r6, z_m4, z_sm1, z_sm2, z_drop, z_raise, z_has, z_ho, z_seti, z_sI, z_fn, z_ent, z_f1, z_f2, z_f3, z_f4, z_k0, z_k1, z_k2, z_k3, z_k4, z_call, z_r1, z_r2, z_r3, z_callB, z_for, z_bls1, z_outR, z_fg0, z_fg1, z_lp1, z_lp2, z_lp3, z_it1, z_it2, z_rn0, z_asgT, z_tt, z_ta0, z_ta1, z_par, z_two, z_setW, List.getElem?_cons_zero, List.getElem?_cons_succ, List.set_cons_zero, List.set_cons_succ, List.map_cons, List.map_nil, List.length_cons, List.length_nil, List.cons_append, List.nil_append, List.replicate, Nat.zero_add, Nat.reduceAdd, Nat.reduceSub, if_true, List.append_nil, q_addI, q_sub, q_neg, q_cmp, q_ixL, q_ixT, q_lenL, q_lenT, q_int, q_max, q_min, q_tupL, q_lstT, q_isB, q_slL, q_slT, q_eqS, q_neS, q_tn, q_at0, q_rev, q_isNB, q_tupT, q_lstL, z_okr, cond_true, ac, tk, at_, l2, if_pos lta, z_w0, z_w1]
      have h3 := h3
      unfold el_law_flat_1 fD at h3
      rw [h3, List.append_assoc]
      rfl
theorem cut_to {xs : List PyData} {k : Nat} (h : k ≤ xs.length) : cutD xs none (some (k : Int)) = xs.take k := by
  have a : HT.sIx xs.length 0 none = 0 := rfl
  have b : HT.sIx xs.length xs.length (some (k : Int)) = k := by
    show (if (k : Int) < 0 then ((k : Int) + (xs.length : Int)).toNat else min (k : Int).toNat xs.length) = _
    rw [if_neg (by omega)]
    omega
  unfold cutD
  rw [a, b, List.drop_zero, Nat.sub_zero]
theorem flat_ok (n : Int) {cs : List PyData} (hc : Cols cs) (l6 : cs.length ≤ 6) : ∃ (n' : Int) (fs : List (Nat × Str)), FlatS cs fs ∧ fn__law_flat [.brw [.int n], .d (.list cs)] = .ok (.own (fD fs)) [.brw [.int n'], .d (.list cs)] := by
  obtain ⟨n1, ks, pm, ho⟩ := order_ok n cs.length l6
  have or_ := fun (r : En) => cbB (r := r) (k := 2) rfl ho (.inr ⟨_, rfl⟩)
  have tk := fun (r : En) => cb0 (n := n1) (s := (cs.length : Int) + 1) (r := r) (by omega)
  obtain ⟨k, lt, ek⟩ := dig (n := n1) (s := cs.length + 1) (by omega)
  have ek : n1 % ((cs.length : Int) + 1) = (k : Int) := ek
  have kl : ks.length = cs.length := by rw [pm.length_eq, List.length_range]
  have cut : cutD (nL ks) none (some (k : Int)) = nL (ks.take k) := by
    rw [cut_to (by rw [nL_len]; omega), nL_take]
  have mem : ∀ c ∈ ks.take k, c < cs.length := fun c h => by
    have := pm.mem_iff.mp (List.mem_of_mem_take h)
    exact List.mem_range.mp this
  have nd : (ks.take k).Nodup := List.Nodup.sublist (List.take_sublist k ks) (pm.nodup_iff.mpr List.nodup_range)
  obtain ⟨n', fs, h1, h2, h3⟩ := flat_loop hc (.list (nL (ks.take k))) (ks.take k) (n1 / ((cs.length : Int) + 1)) [] mem (by rw [List.length_take]; simp only [List.length_nil]; omega)
  have lf : fs.length ≤ 6 := by
    have := congrArg List.length h1
    rw [List.length_map, List.length_take] at this
    omega
  refine ⟨n', fs, ⟨by rw [h1]; exact nd, h2, lf⟩, ?_⟩
  have e : dLc (dName 2) [3] (tgName 3) (dC (.bool true)) el_law_flat_1 [some (.brw [.int (n1 / ((cs.length : Int) + 1))]), some (.d (.list cs)), some (.own (nL (ks.take k))), none] = .ok (.own (fD fs)) [some (.brw [.int n']), some (.d (.list cs)), some (.d (.list (nL (ks.take k)))), none] := by
    rw [z_dlc (e1 := [some (.brw [.int (n1 / ((cs.length : Int) + 1))]), some (.d (.list cs)), some (.d (.list (nL (ks.take k)))), none]) (x := .list (nL (ks.take k))) (xs := nL (ks.take k)) rfl rfl rfl, z_w1, z_w0]
    show outC (lcGo [3] (tgName 3) (dC (.bool true)) el_law_flat_1 (nL (ks.take k)) [some (.brw [.int (n1 / ((cs.length : Int) + 1))]), some (.d (.list cs)), some (.d (.list (nL (ks.take k)))), none] []) _ _ = _
    rw [h3]
    rfl
  unfold fn__law_flat dn__law_flat
  simp only [z_ob, z_om, z_b1, z_b2, z_be1, z_be2, z_bs1, z_bs2, z_bs3, z_bl1, z_bl2, z_bc1, z_bc2, z_cr1, z_cr2, z_or, z_os, z_oo, z_ol, z_oB, z_name, z_sn1, z_sn2, z_sn3, z_sn5, z_sn6, z_sn7, z_sn8, z_sn4, z_rs1, z_rs2, z_rs3, z_rs4, z_sr1, z_sr2, z_sr3, z_rss0, z_rss1, z_es, z_es1, z_es2, z_est, z_e1, z_e2, z_e4, z_se1, z_se2, z_se3, z_e5, z_nb4, z_nb5, z_nb6, z_a5, z_a6, z_a7, z_nb0, z_nb1, z_nb2, z_nb3, z_a1, z_a2, z_a3, z_a4, z_c, z_u2, z_u1, z_un, z_ev0, z_ev1, z_tup, z_lst, z_dt0, z_dt1, z_d1, z_isB, z_bt, z_bf, z_st, z_sf, z_and, z_dor, z_ite, z_not, z_no, z_chain, z_isi, z_iw1, z_iw2, z_iw3, z_isN, z_notN, z_nw1, z_nw2, z_mul, z_mw1, z_mw2, z_sl, z_po0, z_po1, z_io, z_oa, z_so1, z_so2, z_up, z_su1, z_su2, z_mut, z_mo, z_mt, z_meth, z_seq, z_next, z_asg, z_if, z_ret, z_rt, z_m1, z_m2, z_m3, z_m5, z_m6, z_m7, z_sm3, z_sm4, z_f5, z_f6, z_f7, z_k5, z_r4, z_r5, z_r6, z_m4, z_sm1, z_sm2, z_drop, z_raise, z_has, z_ho, z_seti, z_sI, z_fn, z_ent, z_f1, z_f2, z_f3, z_f4, z_k0, z_k1, z_k2, z_k3, z_k4, z_call, z_r1, z_r2, z_r3, z_callB, z_for, z_bls1, z_outR, z_fg0, z_fg1, z_lp1, z_lp2, z_lp3, z_it1, z_it2, z_rn0, z_asgT, z_tt, z_ta0, z_ta1, z_par, z_two, z_setW, List.getElem?_cons_zero, List.getElem?_cons_succ, List.set_cons_zero, List.set_cons_succ, List.map_cons, List.map_nil, List.length_cons, List.length_nil, List.cons_append, List.nil_append, List.replicate, Nat.zero_add, Nat.reduceAdd, Nat.reduceSub, if_true, List.append_nil, q_addI, q_sub, q_neg, q_cmp, q_ixL, q_ixT, q_lenL, q_lenT, q_int, q_max, q_min, q_tupL, q_lstT, q_isB, q_slL, q_slT, q_eqS, q_neS, q_tn, q_at0, q_rev, q_isNB, q_tupT, q_lstL, or_, tk, ek, cut, e]
end Vf.Law
/-! The law's trees. -/
namespace Vf.Law
open PySem PySem.Spec L2
def TV : List PyData := [.none, .int 1, .int 2, .int 0, .int 3, .int (-1), .int 9, .int 10, .int (-5), .int 100000000000000000000, .int (-10000000000000000000000000000)]
abbrev TL : List PyData := [.none, .int 1, .int 2, .int 0, .int 3, .int (-1), .int 9, .int 10, .int (-5), .int 100000000000000000000, .int (0 - 10000000000000000000000000000)]
theorem eleven {n : Int} : ∃ x ∈ TV, atI TL (n % 11) = some x := by
  have h : n % 11 = 0 ∨ n % 11 = 1 ∨ n % 11 = 2 ∨ n % 11 = 3 ∨ n % 11 = 4 ∨ n % 11 = 5 ∨ n % 11 = 6 ∨ n % 11 = 7 ∨ n % 11 = 8 ∨ n % 11 = 9 ∨ n % 11 = 10 := by omega
  unfold TV TL
  rcases h with h | h | h | h | h | h | h | h | h | h | h <;> rw [h]
  · exact ⟨_, by simp, q_at (n := 0) rfl⟩
  · exact ⟨_, by simp, q_at (n := 1) rfl⟩
  · exact ⟨_, by simp, q_at (n := 2) rfl⟩
  · exact ⟨_, by simp, q_at (n := 3) rfl⟩
  · exact ⟨_, by simp, q_at (n := 4) rfl⟩
  · exact ⟨_, by simp, q_at (n := 5) rfl⟩
  · exact ⟨_, by simp, q_at (n := 6) rfl⟩
  · exact ⟨_, by simp, q_at (n := 7) rfl⟩
  · exact ⟨_, by simp, q_at (n := 8) rfl⟩
  · exact ⟨_, by simp, q_at (n := 9) rfl⟩
  · exact ⟨_, by simp, q_at (n := 10) rfl⟩
theorem tv_nice : ∀ x ∈ TV, Nice 0 32 x := by
  intro x h
  refine nice_ok ?_
  revert x
  unfold TV
  exact all_cons (by decide +kernel) <| all_cons (by decide +kernel) <| all_cons (by decide +kernel) <| all_cons (by decide +kernel) <| all_cons (by decide +kernel) <| all_cons (by decide +kernel) <| all_cons (by decide +kernel) <| all_cons (by decide +kernel) <| all_cons (by decide +kernel) <| all_cons (by decide +kernel) <| all_cons (by decide +kernel) all_nil
theorem small_nice : ∀ c < 10, Nice 0 2 (nI c) := by
  intro c h
  refine nice_ok ?_
  revert c
  decide +kernel
theorem tv_sh {x : PyData} (h : x ∈ TV) : SeqAt.shaped x = true := (tv_nice x h).shaped (by decide)
theorem eqv_refl_tv : ∀ x ∈ TV, PyData.eqv x x = true := by
  unfold TV
  exact all_cons (by decide +kernel) <| all_cons (by decide +kernel) <| all_cons (by decide +kernel) <| all_cons (by decide +kernel) <| all_cons (by decide +kernel) <| all_cons (by decide +kernel) <| all_cons (by decide +kernel) <| all_cons (by decide +kernel) <| all_cons (by decide +kernel) <| all_cons (by decide +kernel) <| all_cons (by decide +kernel) all_nil
/-! ### not in -/
theorem not_in {x : PyData} {ys : List PyData} (h1 : SeqAt.shaped x = true) (h2 : SeqAt.shaped (.list ys) = true) : opNotIn x (.list ys) = some (.d (.bool !(ys.any fun z => PyData.eqv z x))) := by
  have e : inD x (.list ys) = some (ys.any fun z => PyData.eqv z x) := by
    show (if (SeqAt.shaped x && SeqAt.shaped (.list ys)) = true then _ else none) = _
    rw [h1, h2]
    rfl
  show (inD x (.list ys)).map _ = _
  rw [e]
  rfl
theorem eqv_int (i j : Int) : PyData.eqv (.int i) (.int j) = decide (i = j) := by
  simp only [PyData.eqv]
  rfl
theorem any_nat (c : Nat) : ∀ us : List Nat, ((nL us).any fun z => PyData.eqv z (nI c)) = decide (c ∈ us)
  | [] => rfl
  | u :: us => by
    show (PyData.eqv (nI u) (nI c) || (nL us).any fun z => PyData.eqv z (nI c)) = _
    rw [any_nat c us, eqv_int]
    by_cases h : c = u
    · subst h
      rw [decide_eq_true rfl, decide_eq_true List.mem_cons_self]
      rfl
    · have h1 : ¬ (u : Int) = (c : Int) := fun z => h (by omega)
      rw [decide_eq_false h1, Bool.false_or]
      exact decide_eq_decide.mpr ⟨fun z => List.mem_cons_of_mem _ z, fun z => (List.mem_cons.mp z).resolve_left h⟩
theorem nl_nice {us : List Nat} (h : ∀ c ∈ us, c < 10) (few : us.length ≤ 6) : Nice 1 27 (.list (nL us)) := nice_list (n := 6) (fun x hx => by
  obtain ⟨c, hc, rfl⟩ := List.mem_map.mp hx
  exact small_nice c (h c hc)) (by rw [List.length_map]; exact few)
theorem not_in_n {us : List Nat} (h : ∀ c ∈ us, c < 10) (few : us.length ≤ 6) {c : Nat} (hc : c < 10) : opNotIn (nI c) (.list (nL us)) = some (.d (.bool (decide (c ∉ us)))) := by
  rw [not_in ((small_nice c hc).shaped (by decide)) ((nl_nice h few).shaped (by decide)), any_nat]
  by_cases z : c ∈ us
  · rw [decide_eq_true z, decide_eq_false (fun q => q z)]; rfl
  · rw [decide_eq_false z, decide_eq_true z]; rfl
/-! ### what a drawn tree is -/
abbrev tD2 (b : PyData × PyData) : PyData := .tuple [b.1, b.2]
abbrev nodeD (c : Nat) (o : Str) (bs : List (PyData × PyData)) (r : PyData) : PyData := .tuple [nI c, .str o, .list (bs.map tD2), r]
def TreeS (cs : List PyData) : Nat → List Nat → PyData → Prop
  | 0, _, t => t = .none
  | d + 1, us, t => t = .none ∨ ∃ (c : Nat) (o : Str) (bs : List (PyData × PyData)) (r : PyData), t = nodeD c o bs r ∧ StepS cs (c, o) ∧ c ∉ us ∧ bs.length ≤ 3 ∧ (bs.map (·.1)).Nodup ∧ (∀ b ∈ bs, b.1 ∈ TV ∧ TreeS cs d (us ++ [c]) b.2) ∧ TreeS cs d (us ++ [c]) r
theorem TreeS.none_ {cs : List PyData} : ∀ {d : Nat} {us : List Nat}, TreeS cs d us .none
  | 0, _ => rfl
  | _ + 1, _ => .inl rfl
def tLen : Nat → Nat
  | 0 => 4
  | d + 1 => 4 * tLen d + 200
theorem nice_pair {k L M : Nat} {x y : PyData} (hx : Nice k L x) (hy : Nice k M y) : Nice (k + 1) (L + M + 7) (.tuple [x, y]) := by
  refine ⟨?_, ?_, ?_, ?_, ?_⟩
  · show (x.showable && (y.showable && true)) = true
    rw [hx.s, hy.s]; rfl
  · show (x.canLay0 && (y.canLay0 && true)) = true
    rw [hx.c, hy.c]; rfl
  · show (x.hasDict || (y.hasDict || false)) = false
    rw [hx.h, hy.h]; rfl
  · show max x.depth (max y.depth 0) + 1 ≤ k + 1
    have := hx.d; have := hy.d; omega
  · have b := tupleText_len_le (PyData.shownAll [x, y])
    have e : (PyData.tuple [x, y]).shown = tupleText (PyData.shownAll [x, y]) := by simp only [PyData.shown]
    rw [e]
    have h1 : ((PyData.shownAll [x, y]).map (·.length)).sum = x.shown.length + y.shown.length := by
      show (x.shown.length :: [y.shown.length]).sum = _
      simp
    have h2 : (PyData.shownAll [x, y]).length = 2 := rfl
    rw [h1, h2] at b
    have := hx.l; have := hy.l
    omega
theorem nice_four {k L1 L2 L3 L4 : Nat} {x y z w : PyData} (hx : Nice k L1 x) (hy : Nice k L2 y) (hz : Nice k L3 z) (hw : Nice k L4 w) : Nice (k + 1) (L1 + L2 + L3 + L4 + 11) (.tuple [x, y, z, w]) := by
  refine ⟨?_, ?_, ?_, ?_, ?_⟩
  · show (x.showable && (y.showable && (z.showable && (w.showable && true)))) = true
    rw [hx.s, hy.s, hz.s, hw.s]; rfl
  · show (x.canLay0 && (y.canLay0 && (z.canLay0 && (w.canLay0 && true)))) = true
    rw [hx.c, hy.c, hz.c, hw.c]; rfl
  · show (x.hasDict || (y.hasDict || (z.hasDict || (w.hasDict || false)))) = false
    rw [hx.h, hy.h, hz.h, hw.h]; rfl
  · show max x.depth (max y.depth (max z.depth (max w.depth 0))) + 1 ≤ k + 1
    have := hx.d; have := hy.d; have := hz.d; have := hw.d; omega
  · have b := tupleText_len_le (PyData.shownAll [x, y, z, w])
    have e : (PyData.tuple [x, y, z, w]).shown = tupleText (PyData.shownAll [x, y, z, w]) := by simp only [PyData.shown]
    rw [e]
    have h1 : ((PyData.shownAll [x, y, z, w]).map (·.length)).sum = x.shown.length + (y.shown.length + (z.shown.length + w.shown.length)) := by
      show (x.shown.length :: [y.shown.length, z.shown.length, w.shown.length]).sum = _
      simp
    have h2 : (PyData.shownAll [x, y, z, w]).length = 4 := rfl
    rw [h1, h2] at b
    have := hx.l; have := hy.l; have := hz.l; have := hw.l
    omega
theorem step_ord {cs : List PyData} {p : Nat × Str} (h : StepS cs p) : p.2 ∈ ords := by
  obtain ⟨ss, ⟨_, hs, _⟩, m⟩ := h.at_
  exact hs.of _ m
theorem tree_nice {cs : List PyData} (l6 : cs.length ≤ 6) : ∀ (d : Nat) (us : List Nat) (t : PyData), TreeS cs d us t → Nice (3 * d) (tLen d) t
  | 0, us, t, h => by
    cases h
    exact nice_ok (by decide +kernel)
  | d + 1, us, t, h => by
    rcases h with rfl | ⟨c, o, bs, r, rfl, st, nu, few, nd, hb, hr⟩
    · exact (nice_ok (k := 0) (L := 4) (by decide +kernel)).mono (by omega) (by show 4 ≤ 4 * tLen d + 200; omega)
    · have lt := st.lt
      have h1 : Nice (3 * d + 2) 2 (nI c) := (small_nice c (by omega)).mono (by omega) (by omega)
      have h2 : Nice (3 * d + 2) 12 (.str o) := (ord_nice o (step_ord st)).mono (by omega) (by omega)
      have h4 : Nice (3 * d + 2) (tLen d) r := (tree_nice l6 d _ r hr).mono (by omega) (Nat.le_refl _)
      have h3 : Nice (3 * d + 1 + 1) (3 * (32 + tLen d + 7 + 2) + 3) (.list (bs.map tD2)) := nice_list (n := 3) (fun x hx => by
        obtain ⟨b, hm, rfl⟩ := List.mem_map.mp hx
        obtain ⟨hv, ht⟩ := hb b hm
        exact nice_pair ((tv_nice _ hv).mono (by omega) (Nat.le_refl _)) (tree_nice l6 d _ _ ht)) (by rw [List.length_map]; exact few)
      exact (nice_four h1 h2 h3 h4).mono (by omega) (by show _ ≤ 4 * tLen d + 200; omega)
/-! ### its making -/
theorem vals_loop (r0 r1 r2 r3 r4 r5 r6 r10 r11 : Option Wv) : ∀ (m : Nat) (lo n : Int) (vs : List PyData) (u8 u9 : Option Wv), notBrw (some u8) = true → notOwn (some u9) = true → vs.Nodup → (∀ v ∈ vs, v ∈ TV) → vs.length + m ≤ 3 →
    ∃ (n' : Int) (vs' : List PyData) (u8' u9' : Option Wv), notOwn (some u9') = true ∧ vs'.Nodup ∧ (∀ v ∈ vs', v ∈ TV) ∧ vs'.length ≤ 3 ∧
      forGo (tgName 8) lp_law_tree_1 (rngD lo m) [some (.brw [.int n]), r1, r2, r3, r4, r5, r6, some (.own vs), u8, u9, r10, r11] = .nx [some (.brw [.int n']), r1, r2, r3, r4, r5, r6, some (.own vs'), u8', u9', r10, r11]
  | 0, lo, n, vs, u8, u9, h8, h9, nd, hv, few => ⟨n, vs, u8, u9, h9, nd, hv, few, rfl⟩
  | m + 1, lo, n, vs, u8, u9, h8, h9', nd, hv, few => by
    have h9 : notBrw (some u9) = true := by
      cases u9 with
      | none => rfl
      | some w => cases w <;> first | rfl | cases h9'
    have c11 := fun (n : Int) (r : En) => cb0 (n := n) (s := 11) (r := r) (by decide)
    have l11 : ∀ w, lim 11 w = some w := fun w => z_lim (by decide)
    have p1 : opPow (.int 10) (.int 20) = some (.d (.int 100000000000000000000)) := q_pow (i := 10) (j := 20) (by decide)
    have p3 : opPow (.int 10) (.int 28) = some (.d (.int 10000000000000000000000000000)) := q_pow (i := 10) (j := 28) (by decide)
    obtain ⟨x, hx, at_⟩ := eleven (n := n)
    unfold TL at at_
    have shv : SeqAt.shaped (.list vs) = true := (nice_list (n := 3) (fun v h => tv_nice v (hv v h)) (by omega)).shaped (by decide)
    have ni := not_in (tv_sh hx) shv
    have app : opApp vs [x] = some (vs ++ [x], .none) := if_pos (by omega)
    cases hb : vs.any fun z => PyData.eqv z x with
    | true =>
      rw [hb] at ni
      obtain ⟨n', vs', u8', u9', k0, k1, k2, k3, k4⟩ := vals_loop r0 r1 r2 r3 r4 r5 r6 r10 r11 m (lo + 1) (n / 11) vs (some (.d (.int lo))) (some (.d x)) rfl rfl nd hv (by omega)
      refine ⟨n', vs', u8', u9', k0, k1, k2, k3, ?_⟩
      rw [z_rn1]
      unfold lp_law_tree_1
      simp only [z_ob, z_om, z_b1, z_b2, z_be1, z_be2, z_bs1, z_bs2, z_bs3, z_bl1, z_bl2, z_bc1, z_bc2, z_cr1, z_cr2, z_or, z_os, z_oo, z_ol, z_oB, z_name, z_sn1, z_sn2, z_sn3, z_sn5, z_sn6, z_sn7, z_sn8, z_sn4, z_rs1, z_rs2, z_rs3, z_rs4, z_sr1, z_sr2, z_sr3, z_rss0, z_rss1, z_es, z_es1, z_es2, z_est, z_e1, z_e2, z_e4, z_se1, z_se2, z_se3, z_e5, z_nb4, z_nb5, z_nb6, z_a5, z_a6, z_a7, z_nb0, z_nb1, z_nb2, z_nb3, z_a1, z_a2, z_a3, z_a4, z_c, z_u2, z_u1, z_un, z_ev0, z_ev1, z_tup, z_lst, z_dt0, z_dt1, z_d1, z_isB, z_bt, z_bf, z_st, z_sf, z_and, z_dor, z_ite, z_not, z_no, z_chain, z_isi, z_iw1, z_iw2, z_iw3, z_isN, z_notN, z_nw1, z_nw2, z_mul, z_mw1, z_mw2, z_sl, z_po0, z_po1, z_io, z_oa, z_so1, z_so2, z_up, z_su1, z_su2, z_mut, z_mo, z_mt, z_meth, z_seq, z_next, z_asg, z_if, z_ret, z_rt, z_m1, z_m2, z_m3, z_m5, z_m6, z_m7, z_sm3, z_sm4, z_f5, z_f6, z_f7, z_k5, z_r4, z_r5, z_r6, z_m4, z_sm1, z_sm2, z_drop, z_raise, z_has, z_ho, z_seti, z_sI, z_fn, z_ent, z_f1, z_f2, z_f3, z_f4, z_k0, z_k1, z_k2, z_k3, z_k4, z_call, z_r1, z_r2, z_r3, z_callB, z_for, z_bls1, z_outR, z_fg0, z_fg1, z_lp1, z_lp2, z_lp3, z_it1, z_it2, z_rn0, z_asgT, z_tt, z_ta0, z_ta1, z_par, z_two, z_setW, List.getElem?_cons_zero, List.getElem?_cons_succ, List.set_cons_zero, List.set_cons_succ, List.map_cons, List.map_nil, List.length_cons, List.length_nil, List.cons_append, List.nil_append, List.replicate, Nat.zero_add, Nat.reduceAdd, Nat.reduceSub, if_true, List.append_nil, q_addI, q_sub, q_neg, q_cmp, q_ixL, q_ixT, q_lenL, q_lenT, q_int, q_max, q_min, q_tupL, q_lstT, q_isB, q_slL, q_slT, q_eqS, q_neS, q_tn, q_at0, q_rev, q_isNB, q_tupT, q_lstL, h8, h9, p1, p3, l11, c11, at_, ni, Bool.not_true]
      exact k4
    | false =>
      rw [hb] at ni
      have nx : x ∉ vs := fun z => by
        have q := List.any_eq_false.mp hb x z
        exact q (eqv_refl_tv x hx)
      obtain ⟨n', vs', u8', u9', k0, k1, k2, k3, k4⟩ := vals_loop r0 r1 r2 r3 r4 r5 r6 r10 r11 m (lo + 1) (n / 11) (vs ++ [x]) (some (.d (.int lo))) (some (.d x)) rfl rfl (by
        rw [List.nodup_append]
        exact ⟨nd, by simp, fun a ha b hb => by rw [List.mem_singleton.mp hb]; exact fun z => nx (z ▸ ha)⟩) (fun v h => by
        rcases List.mem_append.mp h with z | z
        · exact hv v z
        · rw [List.mem_singleton.mp z]; exact hx) (by rw [List.length_append]; simp only [List.length_cons, List.length_nil]; omega)
      refine ⟨n', vs', u8', u9', k0, k1, k2, k3, ?_⟩
      rw [z_rn1]
      unfold lp_law_tree_1
      simp only [z_ob, z_om, z_b1, z_b2, z_be1, z_be2, z_bs1, z_bs2, z_bs3, z_bl1, z_bl2, z_bc1, z_bc2, z_cr1, z_cr2, z_or, z_os, z_oo, z_ol, z_oB, z_name, z_sn1, z_sn2, z_sn3, z_sn5, z_sn6, z_sn7, z_sn8, z_sn4, z_rs1, z_rs2, z_rs3, z_rs4, z_sr1, z_sr2, z_sr3, z_rss0, z_rss1, z_es, z_es1, z_es2, z_est, z_e1, z_e2, z_e4, z_se1, z_se2, z_se3, z_e5, z_nb4, z_nb5, z_nb6, z_a5, z_a6, z_a7, z_nb0, z_nb1, z_nb2, z_nb3, z_a1, z_a2, z_a3, z_a4, z_c, z_u2, z_u1, z_un, z_ev0, z_ev1, z_tup, z_lst, z_dt0, z_dt1, z_d1, z_isB, z_bt, z_bf, z_st, z_sf, z_and, z_dor, z_ite, z_not, z_no, z_chain, z_isi, z_iw1, z_iw2, z_iw3, z_isN, z_notN, z_nw1, z_nw2, z_mul, z_mw1, z_mw2, z_sl, z_po0, z_po1, z_io, z_oa, z_so1, z_so2, z_up, z_su1, z_su2, z_mut, z_mo, z_mt, z_meth, z_seq, z_next, z_asg, z_if, z_ret, z_rt, z_m1, z_m2, z_m3, z_m5, z_m6, z_m7, z_sm3, z_sm4, z_f5, z_f6, z_f7, z_k5, z_r4, z_r5, z_r6, z_m4, z_sm1, z_sm2, z_drop, z_raise, z_has, z_ho, z_seti, z_sI, z_fn, z_ent, z_f1, z_f2, z_f3, z_f4, z_k0, z_k1, z_k2, z_k3, z_k4, z_call, z_r1, z_r2, z_r3, z_callB, z_for, z_bls1, z_outR, z_fg0, z_fg1, z_lp1, z_lp2, z_lp3, z_it1, z_it2, z_rn0, z_asgT, z_tt, z_ta0, z_ta1, z_par, z_two, z_setW, List.getElem?_cons_zero, List.getElem?_cons_succ, List.set_cons_zero, List.set_cons_succ, List.map_cons, List.map_nil, List.length_cons, List.length_nil, List.cons_append, List.nil_append, List.replicate, Nat.zero_add, Nat.reduceAdd, Nat.reduceSub, if_true, List.append_nil, q_addI, q_sub, q_neg, q_cmp, q_ixL, q_ixT, q_lenL, q_lenT, q_int, q_max, q_min, q_tupL, q_lstT, q_isB, q_slL, q_slT, q_eqS, q_neS, q_tn, q_at0, q_rev, q_isNB, q_tupT, q_lstL, h8, h9, p1, p3, l11, c11, at_, ni, Bool.not_false, app]
      exact k4
def tIn (n d : Int) (cs : List PyData) (us : List Nat) : List Wv := [.brw [.int n], .d (.list cs), .d (.list (nL us)), .d (.int d)]
/-- the trees below -/
theorem below_loop {cs : List PyData} {F : FD} {d : Nat} {us : List Nat} (ih : ∀ n : Int, ∃ (n' : Int) (t : PyData), TreeS cs d us t ∧ F (tIn n (d : Int) cs us) = .ok (.d t) (tIn n' (d : Int) cs us)) (X r4 r5 r6 r7 r8 : Option Wv) :
    ∀ (vs : List PyData) (n : Int) (acc : List PyData) (o10 : Option Wv), (o10 = some (.own (nL us)) ∨ o10 = some (.d (.list (nL us)))) → (∀ v ∈ vs, v ∈ TV) → acc.length + vs.length ≤ 1000 →
    ∃ (n' : Int) (bs : List (PyData × PyData)) (o10' : Option Wv), (o10' = some (.own (nL us)) ∨ o10' = some (.d (.list (nL us)))) ∧ bs.map (·.1) = vs ∧ (∀ b ∈ bs, b.1 ∈ TV ∧ TreeS cs d us b.2) ∧
      lcGo [9] (tgName 9) (dC (.bool true)) (el_law_tree_1 F) vs [some (.brw [.int n]), some (.d (.list cs)), X, some (.d (.int ((d : Int) + 1))), r4, r5, r6, r7, r8, none, o10, none] acc =
        some (acc ++ bs.map tD2, [some (.brw [.int n']), some (.d (.list cs)), X, some (.d (.int ((d : Int) + 1))), r4, r5, r6, r7, r8, none, o10', none])
  | [], n, acc, o10, ho, _, _ => ⟨n, [], o10, ho, rfl, fun _ h => (nomatch h), by rw [List.map_nil, List.append_nil]; rfl⟩
  | v :: vs, n, acc, o10, ho, hv, few => by
    obtain ⟨n1, t, ht, e⟩ := ih n
    have cb : ∀ r : En, callB 4 F [.loc 0, .d (.list cs), .d (.list (nL us)), .d (.int (d : Int))] (some (.brw [.int n]) :: r) = .ok (.d t) (some (.brw [.int n1]) :: r) := fun r => cbB (k := 4) (us := [.d (.list cs), .d (.list (nL us)), .d (.int (d : Int))]) rfl e (.inl rfl)
    rw [List.length_cons] at few
    obtain ⟨n', bs, o10', k1, k2, k3, k4⟩ := below_loop ih X r4 r5 r6 r7 r8 vs n1 (acc ++ [tD2 (v, t)]) (some (.d (.list (nL us)))) (.inr rfl) (fun x hx => hv x (List.mem_cons_of_mem _ hx)) (by rw [List.length_append]; simp only [List.length_cons, List.length_nil]; omega)
    refine ⟨n', (v, t) :: bs, o10', k1, by rw [List.map_cons, k2], fun b hb => ?_, ?_⟩
    · rcases List.mem_cons.mp hb with z | z
      · rw [z]; exact ⟨hv v List.mem_cons_self, ht⟩
      · exact k3 b z
    · have lta : acc.length ≤ 1000000 := by omega
      have l2 : ∀ w, lim 2 w = some w := fun w => z_lim (by decide)
      have dd : ((d : Int) + 1 - 1) = (d : Int) := by omega
      rw [z_lg]
      unfold el_law_tree_1
      unfold el_law_tree_1 at k4
      rcases ho with rfl | rfl
      · simp only [z_ob, z_om, z_b1, z_b2, z_be1, z_be2, z_bs1, z_bs2, z_bs3, z_bl1, z_bl2, z_bc1, z_bc2, z_cr1, z_cr2, z_or, z_os, z_oo, z_ol, z_oB, z_name, z_sn1, z_sn2, z_sn3, z_sn5, z_sn6, z_sn7, z_sn8, z_sn4, z_rs1, z_rs2, z_rs3, z_rs4, z_sr1, z_sr2, z_sr3, z_rss0, z_rss1, z_es, z_es1, z_es2, z_est, z_e1, z_e2, z_e4, z_se1, z_se2, z_se3, z_e5, z_nb4, z_nb5, z_nb6, z_a5, z_a6, z_a7, z_nb0, z_nb1, z_nb2, z_nb3, z_a1, z_a2, z_a3, z_a4, z_c, z_u2, z_u1, z_un, z_ev0, z_ev1, z_tup, z_lst, z_dt0, z_dt1, z_d1, z_isB, z_bt, z_bf, z_st, z_sf, z_and, z_dor, z_ite, z_not, z_no, z_chain, z_isi, z_iw1, z_iw2, z_iw3, z_isN, z_notN, z_nw1, z_nw2, z_mul, z_mw1, z_mw2, z_sl, z_po0, z_po1, z_io, z_oa, z_so1, z_so2, z_up, z_su1, z_su2, z_mut, z_mo, z_mt, z_meth, z_seq, z_next, z_asg, z_if, z_ret, z_rt, z_m1, z_m2, z_m3, z_m5, z_m6, z_m7, z_sm3, z_sm4, z_f5, z_f6, z_f7, z_k5, z_r4, z_r5, z_r6, z_m4, z_sm1, z_sm2, z_drop, z_raise, z_has, z_ho, z_seti, z_sI, z_fn, z_ent, z_f1, z_f2, z_f3, z_f4, z_k0, z_k1, z_k2, z_k3, z_k4, z_call, z_r1, z_r2, z_r3, z_callB, z_for, z_bls1, z_outR, z_fg0, z_fg1, z_lp1, z_lp2, z_lp3, z_it1, z_it2, z_rn0, z_asgT, z_tt, z_ta0, z_ta1, z_par, z_two, z_setW, List.getElem?_cons_zero, List.getElem?_cons_succ, List.set_cons_zero, List.set_cons_succ, List.map_cons, List.map_nil, List.length_cons, List.length_nil, List.cons_append, List.nil_append, List.replicate, Nat.zero_add, Nat.reduceAdd, Nat.reduceSub, if_true, List.append_nil, q_addI, q_sub, q_neg, q_cmp, q_ixL, q_ixT, q_lenL, q_lenT, q_int, q_max, q_min, q_tupL, q_lstT, q_isB, q_slL, q_slT, q_eqS, q_neS, q_tn, q_at0, q_rev, q_isNB, q_tupT, q_lstL, z_okr, cond_true, dd, cb, l2, if_pos lta, z_w0, z_w1]
        rw [k4, List.append_assoc]
        rfl
      · simp only [z_ob, z_om, z_b1, z_b2, z_be1, z_be2, z_bs1, z_bs2, z_bs3, z_bl1, z_bl2, z_bc1, z_bc2, z_cr1, z_cr2, z_or, z_os, z_oo, z_ol, z_oB, z_name, z_sn1, z_sn2, z_sn3, z_sn5, z_sn6, z_sn7, z_sn8, z_sn4, z_rs1, z_rs2, z_rs3, z_rs4, z_sr1, z_sr2, z_sr3, z_rss0, z_rss1, z_es, z_es1, z_es2, z_est, z_e1, z_e2, z_e4, z_se1, z_se2, z_se3, z_e5, z_nb4, z_nb5, z_nb6, z_a5, z_a6, z_a7, z_nb0, z_nb1, z_nb2, z_nb3, z_a1, z_a2, z_a3, z_a4, z_c, z_u2, z_u1, z_un, z_ev0, z_ev1, z_tup, z_lst, z_dt0, z_dt1, z_d1, z_isB, z_bt, z_bf, z_st, z_sf, z_and, z_dor, z_ite, z_not, z_no, z_chain, z_isi, z_iw1, z_iw2, z_iw3, z_isN, z_notN, z_nw1, z_nw2, z_mul, z_mw1, z_mw2, z_sl, z_po0, z_po1, z_io, z_oa, z_so1, z_so2, z_up, z_su1, z_su2, z_mut, z_mo, z_mt, z_meth, z_seq, z_next, z_asg, z_if, z_ret, z_rt, z_m1, z_m2, z_m3, z_m5, z_m6, z_m7, z_sm3, z_sm4, z_f5, z_f6, z_f7, z_k5, z_r4, z_r5, z_r6, z_m4, z_sm1, z_sm2, z_drop, z_raise, z_has, z_ho, z_seti, z_sI, z_fn, z_ent, z_f1, z_f2, z_f3, z_f4, z_k0, z_k1, z_k2, z_k3, z_k4, z_call, z_r1, z_r2, z_r3, z_callB, z_for, z_bls1, z_outR, z_fg0, z_fg1, z_lp1, z_lp2, z_lp3, z_it1, z_it2, z_rn0, z_asgT, z_tt, z_ta0, z_ta1, z_par, z_two, z_setW, List.getElem?_cons_zero, List.getElem?_cons_succ, List.set_cons_zero, List.set_cons_succ, List.map_cons, List.map_nil, List.length_cons, List.length_nil, List.cons_append, List.nil_append, List.replicate, Nat.zero_add, Nat.reduceAdd, Nat.reduceSub, if_true, List.append_nil, q_addI, q_sub, q_neg, q_cmp, q_ixL, q_ixT, q_lenL, q_lenT, q_int, q_max, q_min, q_tupL, q_lstT, q_isB, q_slL, q_slT, q_eqS, q_neS, q_tn, q_at0, q_rev, q_isNB, q_tupT, q_lstL, z_okr, cond_true, dd, cb, l2, if_pos lta, z_w0, z_w1]
        rw [k4, List.append_assoc]
        rfl
/-- the columns that are left -/
theorem left_cols {us : List Nat} (hu : ∀ c ∈ us, c < 10) (fu : us.length ≤ 6) {m : Nat} (lm : m ≤ 6) {f : DE} {e : En} {t : DE} (hf : f e = .ok (.d (nI m)) e) (free : e[5]? = some none) (ht : ∀ c : Nat, c < m → t (e.set 5 (some (.d (nI c)))) = .ok (.d (.bool (decide (c ∉ us)))) (e.set 5 (some (.d (nI c))))) :
    ∃ ls : List Nat, (∀ c ∈ ls, c < m ∧ c ∉ us) ∧ ls.length ≤ m ∧ dLcR f [5] (tgName 5) t (dName 5) e = .ok (.own (nL ls)) e := by
  have l : 5 < e.length := (List.getElem?_eq_some_iff.mp free).1
  have back : rst e e [5] = e := by
    show e.set 5 (e.getD 5 none) = e
    rw [List.getD_eq_getElem?_getD, free]
    apply List.ext_getElem?
    intro j
    by_cases hj : j = 5
    · rw [hj, List.getElem?_set_self l, free]; rfl
    · rw [List.getElem?_set_ne (Ne.symm hj)]
  have w : wpE e [5] = e := by
    show e.set 5 none = e
    apply List.ext_getElem?
    intro j
    by_cases hj : j = 5
    · rw [hj, List.getElem?_set_self l, free]
    · rw [List.getElem?_set_ne (Ne.symm hj)]
  have no : noOwn e [5] = true := by
    show (notOwn e[5]? && true) = true
    rw [free]
    rfl
  have bk : ∀ x : PyData, wpE (e.set 5 (some (.d x))) [5] = e := fun x => by
    show (e.set 5 (some (.d x))).set 5 none = e
    rw [setSet]
    exact w
  have go : ∀ (k lo : Nat) (acc : List Nat), lo + k ≤ m → acc.length + k ≤ 100 → (∀ c ∈ acc, c < m ∧ c ∉ us) → ∃ ls : List Nat, (∀ c ∈ ls, c < m ∧ c ∉ us) ∧ ls.length ≤ acc.length + k ∧ lcGo [5] (tgName 5) t (dName 5) (rngD (lo : Int) k) e (nL acc) = some (nL ls, e) := by
    intro k
    induction k with
    | zero => intro lo acc _ _ h; exact ⟨acc, h, by omega, rfl⟩
    | succ k ih =>
      intro lo acc hk few h
      have tg : tgName 5 (nI lo) e = some (e.set 5 (some (.d (nI lo)))) := by
        unfold tgName setW
        rw [free]
        rfl
      have at5 : (e.set 5 (some (Wv.d (nI lo))))[5]? = some (some (.d (nI lo))) := by rw [List.getElem?_set_self l]
      have el : esR (dName 5 (e.set 5 (some (.d (nI lo))))) = .ok (.d (nI lo)) (e.set 5 (some (.d (nI lo)))) := by
        rw [z_name, at5]
        rfl
      have ht := ht lo (by omega)
      rw [z_rn1, z_lg]
      by_cases hm : lo ∈ us
      · obtain ⟨ls, a, b, c⟩ := ih (lo + 1) acc (by omega) (by omega) h
        refine ⟨ls, a, by omega, ?_⟩
        rw [decide_eq_false (fun z => z hm)] at ht
        simp only [tg, z_ob, ht, z_okr, z_rs1, z_isB, cond_false, bk]
        exact c
      · obtain ⟨ls, a, b, c⟩ := ih (lo + 1) (acc ++ [lo]) (by omega) (by rw [List.length_append]; simp only [List.length_cons, List.length_nil]; omega) (fun x hx => by
          rcases List.mem_append.mp hx with z | z
          · exact h x z
          · rw [List.mem_singleton.mp z]; exact ⟨by omega, hm⟩)
        refine ⟨ls, a, by rw [List.length_append] at b; simp only [List.length_cons, List.length_nil] at b; omega, ?_⟩
        rw [decide_eq_true hm] at ht
        have few2 : (nL acc).length ≤ 1000000 := by rw [nL_len]; omega
        simp only [tg, z_ob, ht, z_okr, z_rs1, z_isB, cond_true, el, z_d1, if_pos few2, bk]
        have e2 : nL acc ++ [PyData.int (lo : Int)] = nL (acc ++ [lo]) := nL_app (b := [lo])
        rw [e2]
        exact c
  obtain ⟨ls, a, b, c⟩ := go m 0 [] (by omega) (by simp; omega) (fun _ h => nomatch h)
  refine ⟨ls, a, by simpa using b, ?_⟩
  unfold dLcR
  rw [hf, z_b1, no, cond_true, z_rs1, z_ob, rng_nat (by omega), z_ob]
  show outC (lcGo [5] (tgName 5) t (dName 5) (rngD ((0 : Nat) : Int) m) (wpE e [5]) []) e [5] = _
  rw [w, show lcGo [5] (tgName 5) t (dName 5) (rngD ((0 : Nat) : Int) m) e [] = _ from c]
  show Rs.ok (.own (nL ls)) (rst e e [5]) = _
  rw [back]
theorem tree_ok {cs : List PyData} (hc : Cols cs) (l6 : cs.length ≤ 6) : ∀ (d fuel : Nat), d < fuel → d ≤ 6 → ∀ (n : Int) (us : List Nat), (∀ c ∈ us, c < 10) → us.length + d ≤ 6 →
    ∃ (n' : Int) (t : PyData), TreeS cs d us t ∧ fn__law_tree fuel (tIn n (d : Int) cs us) = .ok (.d t) (tIn n' (d : Int) cs us)
  | d, 0, h, _, _, _, _, _ => absurd h (Nat.not_lt_zero _)
  | d, fuel + 1, hf, d6, n, us, hu, fu => by
    have l0 : ∀ w, lim 0 w = some w := fun w => z_lim (by decide)
    have l1' : ∀ w, lim 1 w = some w := fun w => z_lim (by decide)
    have l4 : ∀ w, lim 4 w = some w := fun w => z_lim (by decide)
    obtain ⟨ls, hl, ll, le⟩ := left_cols (us := us) hu (by omega) l6 (f := dUn opLen [dName 1]) (t := ts_law_tree_1) (e := [some (.brw [.int n]), some (.d (.list cs)), some (.d (.list (nL us))), some (.d (.int (d : Int))), none, none, none, none, none, none, none, none]) (by simp only [z_ob, z_om, z_b1, z_b2, z_be1, z_be2, z_bs1, z_bs2, z_bs3, z_bl1, z_bl2, z_bc1, z_bc2, z_cr1, z_cr2, z_or, z_os, z_oo, z_ol, z_oB, z_name, z_sn1, z_sn2, z_sn3, z_sn5, z_sn6, z_sn7, z_sn8, z_sn4, z_rs1, z_rs2, z_rs3, z_rs4, z_sr1, z_sr2, z_sr3, z_rss0, z_rss1, z_es, z_es1, z_es2, z_est, z_e1, z_e2, z_e4, z_se1, z_se2, z_se3, z_e5, z_nb4, z_nb5, z_nb6, z_a5, z_a6, z_a7, z_nb0, z_nb1, z_nb2, z_nb3, z_a1, z_a2, z_a3, z_a4, z_c, z_u2, z_u1, z_un, z_ev0, z_ev1, z_tup, z_lst, z_dt0, z_dt1, z_d1, z_isB, z_bt, z_bf, z_st, z_sf, z_and, z_dor, z_ite, z_not, z_no, z_chain, z_isi, z_iw1, z_iw2, z_iw3, z_isN, z_notN, z_nw1, z_nw2, z_mul, z_mw1, z_mw2, z_sl, z_po0, z_po1, z_io, z_oa, z_so1, z_so2, z_up, z_su1, z_su2, z_mut, z_mo, z_mt, z_meth, z_seq, z_next, z_asg, z_if, z_ret, z_rt, z_m1, z_m2, z_m3, z_m5, z_m6, z_m7, z_sm3, z_sm4, z_f5, z_f6, z_f7, z_k5, z_r4, z_r5, z_r6, z_m4, z_sm1, z_sm2, z_drop, z_raise, z_has, z_ho, z_seti, z_sI, z_fn, z_ent, z_f1, z_f2, z_f3, z_f4, z_k0, z_k1, z_k2, z_k3, z_k4, z_call, z_r1, z_r2, z_r3, z_callB, z_for, z_bls1, z_outR, z_fg0, z_fg1, z_lp1, z_lp2, z_lp3, z_it1, z_it2, z_rn0, z_asgT, z_tt, z_ta0, z_ta1, z_par, z_two, z_setW, List.getElem?_cons_zero, List.getElem?_cons_succ, List.set_cons_zero, List.set_cons_succ, List.map_cons, List.map_nil, List.length_cons, List.length_nil, List.cons_append, List.nil_append, List.replicate, Nat.zero_add, Nat.reduceAdd, Nat.reduceSub, if_true, List.append_nil, q_addI, q_sub, q_neg, q_cmp, q_ixL, q_ixT, q_lenL, q_lenT, q_int, q_max, q_min, q_tupL, q_lstT, q_isB, q_slL, q_slT, q_eqS, q_neS, q_tn, q_at0, q_rev, q_isNB, q_tupT, q_lstL]) rfl (fun c lt => by
      have q := not_in_n (us := us) hu (by omega) (c := c) (by omega)
      unfold ts_law_tree_1
      simp only [z_ob, z_om, z_b1, z_b2, z_be1, z_be2, z_bs1, z_bs2, z_bs3, z_bl1, z_bl2, z_bc1, z_bc2, z_cr1, z_cr2, z_or, z_os, z_oo, z_ol, z_oB, z_name, z_sn1, z_sn2, z_sn3, z_sn5, z_sn6, z_sn7, z_sn8, z_sn4, z_rs1, z_rs2, z_rs3, z_rs4, z_sr1, z_sr2, z_sr3, z_rss0, z_rss1, z_es, z_es1, z_es2, z_est, z_e1, z_e2, z_e4, z_se1, z_se2, z_se3, z_e5, z_nb4, z_nb5, z_nb6, z_a5, z_a6, z_a7, z_nb0, z_nb1, z_nb2, z_nb3, z_a1, z_a2, z_a3, z_a4, z_c, z_u2, z_u1, z_un, z_ev0, z_ev1, z_tup, z_lst, z_dt0, z_dt1, z_d1, z_isB, z_bt, z_bf, z_st, z_sf, z_and, z_dor, z_ite, z_not, z_no, z_chain, z_isi, z_iw1, z_iw2, z_iw3, z_isN, z_notN, z_nw1, z_nw2, z_mul, z_mw1, z_mw2, z_sl, z_po0, z_po1, z_io, z_oa, z_so1, z_so2, z_up, z_su1, z_su2, z_mut, z_mo, z_mt, z_meth, z_seq, z_next, z_asg, z_if, z_ret, z_rt, z_m1, z_m2, z_m3, z_m5, z_m6, z_m7, z_sm3, z_sm4, z_f5, z_f6, z_f7, z_k5, z_r4, z_r5, z_r6, z_m4, z_sm1, z_sm2, z_drop, z_raise, z_has, z_ho, z_seti, z_sI, z_fn, z_ent, z_f1, z_f2, z_f3, z_f4, z_k0, z_k1, z_k2, z_k3, z_k4, z_call, z_r1, z_r2, z_r3, z_callB, z_for, z_bls1, z_outR, z_fg0, z_fg1, z_lp1, z_lp2, z_lp3, z_it1, z_it2, z_rn0, z_asgT, z_tt, z_ta0, z_ta1, z_par, z_two, z_setW, List.getElem?_cons_zero, List.getElem?_cons_succ, List.set_cons_zero, List.set_cons_succ, List.map_cons, List.map_nil, List.length_cons, List.length_nil, List.cons_append, List.nil_append, List.replicate, Nat.zero_add, Nat.reduceAdd, Nat.reduceSub, if_true, List.append_nil, q_addI, q_sub, q_neg, q_cmp, q_ixL, q_ixT, q_lenL, q_lenT, q_int, q_max, q_min, q_tupL, q_lstT, q_isB, q_slL, q_slT, q_eqS, q_neS, q_tn, q_at0, q_rev, q_isNB, q_tupT, q_lstL, q])
    have shl : SeqAt.shaped (.list (nL ls)) = true := (nl_nice (fun c h => by have := (hl c h).1; omega) (by omega)).shaped (by decide)
    have c6 := fun (n : Int) (r : En) => cb0 (n := n) (s := 6) (r := r) (by decide)
    have c4 := fun (n : Int) (r : En) => cb0 (n := n) (s := 4) (r := r) (by decide)
    unfold tIn fn__law_tree dn__law_tree
    cases ls with
    | nil =>
      refine ⟨n, .none, .none_, ?_⟩
      have eqn : opEq (.list (nL [])) (.list []) = some (.d (.bool true)) := by rfl
      simp only [z_ob, z_om, z_b1, z_b2, z_be1, z_be2, z_bs1, z_bs2, z_bs3, z_bl1, z_bl2, z_bc1, z_bc2, z_cr1, z_cr2, z_or, z_os, z_oo, z_ol, z_oB, z_name, z_sn1, z_sn2, z_sn3, z_sn5, z_sn6, z_sn7, z_sn8, z_sn4, z_rs1, z_rs2, z_rs3, z_rs4, z_sr1, z_sr2, z_sr3, z_rss0, z_rss1, z_es, z_es1, z_es2, z_est, z_e1, z_e2, z_e4, z_se1, z_se2, z_se3, z_e5, z_nb4, z_nb5, z_nb6, z_a5, z_a6, z_a7, z_nb0, z_nb1, z_nb2, z_nb3, z_a1, z_a2, z_a3, z_a4, z_c, z_u2, z_u1, z_un, z_ev0, z_ev1, z_tup, z_lst, z_dt0, z_dt1, z_d1, z_isB, z_bt, z_bf, z_st, z_sf, z_and, z_dor, z_ite, z_not, z_no, z_chain, z_isi, z_iw1, z_iw2, z_iw3, z_isN, z_notN, z_nw1, z_nw2, z_mul, z_mw1, z_mw2, z_sl, z_po0, z_po1, z_io, z_oa, z_so1, z_so2, z_up, z_su1, z_su2, z_mut, z_mo, z_mt, z_meth, z_seq, z_next, z_asg, z_if, z_ret, z_rt, z_m1, z_m2, z_m3, z_m5, z_m6, z_m7, z_sm3, z_sm4, z_f5, z_f6, z_f7, z_k5, z_r4, z_r5, z_r6, z_m4, z_sm1, z_sm2, z_drop, z_raise, z_has, z_ho, z_seti, z_sI, z_fn, z_ent, z_f1, z_f2, z_f3, z_f4, z_k0, z_k1, z_k2, z_k3, z_k4, z_call, z_r1, z_r2, z_r3, z_callB, z_for, z_bls1, z_outR, z_fg0, z_fg1, z_lp1, z_lp2, z_lp3, z_it1, z_it2, z_rn0, z_asgT, z_tt, z_ta0, z_ta1, z_par, z_two, z_setW, List.getElem?_cons_zero, List.getElem?_cons_succ, List.set_cons_zero, List.set_cons_succ, List.map_cons, List.map_nil, List.length_cons, List.length_nil, List.cons_append, List.nil_append, List.replicate, Nat.zero_add, Nat.reduceAdd, Nat.reduceSub, if_true, List.append_nil, q_addI, q_sub, q_neg, q_cmp, q_ixL, q_ixT, q_lenL, q_lenT, q_int, q_max, q_min, q_tupL, q_lstT, q_isB, q_slL, q_slT, q_eqS, q_neS, q_tn, q_at0, q_rev, q_isNB, q_tupT, q_lstL, le, l0, eqn]
    | cons c0 ls0 =>
      have eqn : opEq (.list (nL (c0 :: ls0))) (.list []) = some (.d (.bool false)) := eq_nil1 shl
      cases d with
      | zero =>
        refine ⟨n, .none, .none_, ?_⟩
        simp only [z_ob, z_om, z_b1, z_b2, z_be1, z_be2, z_bs1, z_bs2, z_bs3, z_bl1, z_bl2, z_bc1, z_bc2, z_cr1, z_cr2, z_or, z_os, z_oo, z_ol, z_oB, z_name, z_sn1, z_sn2, z_sn3, z_sn5, z_sn6, z_sn7, z_sn8, z_sn4, z_rs1, z_rs2, z_rs3, z_rs4, z_sr1, z_sr2, z_sr3, z_rss0, z_rss1, z_es, z_es1, z_es2, z_est, z_e1, z_e2, z_e4, z_se1, z_se2, z_se3, z_e5, z_nb4, z_nb5, z_nb6, z_a5, z_a6, z_a7, z_nb0, z_nb1, z_nb2, z_nb3, z_a1, z_a2, z_a3, z_a4, z_c, z_u2, z_u1, z_un, z_ev0, z_ev1, z_tup, z_lst, z_dt0, z_dt1, z_d1, z_isB, z_bt, z_bf, z_st, z_sf, z_and, z_dor, z_ite, z_not, z_no, z_chain, z_isi, z_iw1, z_iw2, z_iw3, z_isN, z_notN, z_nw1, z_nw2, z_mul, z_mw1, z_mw2, z_sl, z_po0, z_po1, z_io, z_oa, z_so1, z_so2, z_up, z_su1, z_su2, z_mut, z_mo, z_mt, z_meth, z_seq, z_next, z_asg, z_if, z_ret, z_rt, z_m1, z_m2, z_m3, z_m5, z_m6, z_m7, z_sm3, z_sm4, z_f5, z_f6, z_f7, z_k5, z_r4, z_r5, z_r6, z_m4, z_sm1, z_sm2, z_drop, z_raise, z_has, z_ho, z_seti, z_sI, z_fn, z_ent, z_f1, z_f2, z_f3, z_f4, z_k0, z_k1, z_k2, z_k3, z_k4, z_call, z_r1, z_r2, z_r3, z_callB, z_for, z_bls1, z_outR, z_fg0, z_fg1, z_lp1, z_lp2, z_lp3, z_it1, z_it2, z_rn0, z_asgT, z_tt, z_ta0, z_ta1, z_par, z_two, z_setW, List.getElem?_cons_zero, List.getElem?_cons_succ, List.set_cons_zero, List.set_cons_succ, List.map_cons, List.map_nil, List.length_cons, List.length_nil, List.cons_append, List.nil_append, List.replicate, Nat.zero_add, Nat.reduceAdd, Nat.reduceSub, if_true, List.append_nil, q_addI, q_sub, q_neg, q_cmp, q_ixL, q_ixT, q_lenL, q_lenT, q_int, q_max, q_min, q_tupL, q_lstT, q_isB, q_slL, q_slT, q_eqS, q_neS, q_tn, q_at0, q_rev, q_isNB, q_tupT, q_lstL, le, l0, eqn, q_eqI, decide_eq_true (show ((0 : Nat) : Int) = 0 from rfl)]
      | succ d =>
        have nz : ¬ ((d + 1 : Nat) : Int) = 0 := by omega
        by_cases six : n % 6 = 0
        · refine ⟨n / 6, .none, .none_, ?_⟩
          simp only [z_ob, z_om, z_b1, z_b2, z_be1, z_be2, z_bs1, z_bs2, z_bs3, z_bl1, z_bl2, z_bc1, z_bc2, z_cr1, z_cr2, z_or, z_os, z_oo, z_ol, z_oB, z_name, z_sn1, z_sn2, z_sn3, z_sn5, z_sn6, z_sn7, z_sn8, z_sn4, z_rs1, z_rs2, z_rs3, z_rs4, z_sr1, z_sr2, z_sr3, z_rss0, z_rss1, z_es, z_es1, z_es2, z_est, z_e1, z_e2, z_e4, z_se1, z_se2, z_se3, z_e5, z_nb4, z_nb5, z_nb6, z_a5, z_a6, z_a7, z_nb0, z_nb1, z_nb2, z_nb3, z_a1, z_a2, z_a3, z_a4, z_c, z_u2, z_u1, z_un, z_ev0, z_ev1, z_tup, z_lst, z_dt0, z_dt1, z_d1, z_isB, z_bt, z_bf, z_st, z_sf, z_and, z_dor, z_ite, z_not, z_no, z_chain, z_isi, z_iw1, z_iw2, z_iw3, z_isN, z_notN, z_nw1, z_nw2, z_mul, z_mw1, z_mw2, z_sl, z_po0, z_po1, z_io, z_oa, z_so1, z_so2, z_up, z_su1, z_su2, z_mut, z_mo, z_mt, z_meth, z_seq, z_next, z_asg, z_if, z_ret, z_rt, z_m1, z_m2, z_m3, z_m5, z_m6, z_m7, z_sm3, z_sm4, z_f5, z_f6, z_f7, z_k5, z_r4, z_r5, z_r6, z_m4, z_sm1, z_sm2, z_drop, z_raise, z_has, z_ho, z_seti, z_sI, z_fn, z_ent, z_f1, z_f2, z_f3, z_f4, z_k0, z_k1, z_k2, z_k3, z_k4, z_call, z_r1, z_r2, z_r3, z_callB, z_for, z_bls1, z_outR, z_fg0, z_fg1, z_lp1, z_lp2, z_lp3, z_it1, z_it2, z_rn0, z_asgT, z_tt, z_ta0, z_ta1, z_par, z_two, z_setW, List.getElem?_cons_zero, List.getElem?_cons_succ, List.set_cons_zero, List.set_cons_succ, List.map_cons, List.map_nil, List.length_cons, List.length_nil, List.cons_append, List.nil_append, List.replicate, Nat.zero_add, Nat.reduceAdd, Nat.reduceSub, if_true, List.append_nil, q_addI, q_sub, q_neg, q_cmp, q_ixL, q_ixT, q_lenL, q_lenT, q_int, q_max, q_min, q_tupL, q_lstT, q_isB, q_slL, q_slT, q_eqS, q_neS, q_tn, q_at0, q_rev, q_isNB, q_tupT, q_lstL, le, l0, eqn, q_eqI, decide_eq_false nz, c6, decide_eq_true six]
        · have llen : (nL (c0 :: ls0)).length = (c0 :: ls0).length := nL_len
          have ck := fun (n : Int) (r : En) => cb0 (n := n) (s := ((nL (c0 :: ls0)).length : Int)) (r := r) (by rw [llen]; simp only [List.length_cons] at ll ⊢; omega)
          obtain ⟨k, lk, ek⟩ := dig (n := n / 6) (s := (nL (c0 :: ls0)).length) (by rw [llen]; simp)
          obtain ⟨c, ec⟩ : ∃ c, c = (c0 :: ls0)[k]'(by rw [llen] at lk; exact lk) := ⟨_, rfl⟩
          have cin : c ∈ (c0 :: ls0) := by rw [ec]; exact List.getElem_mem _
          obtain ⟨lt, nu⟩ := hl c cin
          have a1 : atI (nL (c0 :: ls0)) (k : Int) = some (nI c) := q_at (by rw [nL_get (by rw [llen] at lk; exact lk), ec])
          obtain ⟨ss, eco, hs, ne⟩ := col_at hc lt
          have a2 : atI cs (c : Int) = some (.tuple (ss.map PyData.str)) := q_at eco
          obtain ⟨o, ho, a3⟩ := pick (n := n / 6 / ((nL (c0 :: ls0)).length : Int)) ne
          have sl1 : 0 < (ss.map PyData.str).length := by
            rw [List.length_map]
            cases ss with
            | nil => exact absurd rfl ne
            | cons a b => simp
          have sl2 : (ss.map PyData.str).length ≤ 4 := by rw [List.length_map]; exact hs.few
          have cj := fun (n : Int) (r : En) => cb0 (n := n) (s := ((ss.map PyData.str).length : Int)) (r := r) (by omega)
          obtain ⟨n3, en3⟩ : ∃ n3, n3 = n / 6 / ((nL (c0 :: ls0)).length : Int) / ((ss.map PyData.str).length : Int) := ⟨_, rfl⟩
          obtain ⟨v, lv, ev⟩ := dig (n := n3) (s := 4) (by decide)
          have ev : n3 % 4 = (v : Int) := ev
          obtain ⟨n4, vs, u8, u9, k0, k1, k2, k3, k4⟩ := vals_loop none (some (.d (.list cs))) (some (.d (.list (nL us)))) (some (.d (.int ((d + 1 : Nat) : Int)))) (some (.own (nL (c0 :: ls0)))) (some (.d (nI c))) (some (.d (.str o))) none none v 0 (n3 / 4) [] none none rfl rfl (by simp) (fun _ h => nomatch h) (by simp only [List.length_nil]; omega)
          have evv : evs [dCallB 2 fn__law_take [dName 0, dC (.int 4)]] [some (.brw [.int n3]), some (.d (.list cs)), some (.d (.list (nL us))), some (.d (.int ((d + 1 : Nat) : Int))), some (.own (nL (c0 :: ls0))), some (.d (nI c)), some (.d (.str o)), some (.own []), none, none, none, none] = .ok [.d (.int (v : Int))] [some (.brw [.int (n3 / 4)]), some (.d (.list cs)), some (.d (.list (nL us))), some (.d (.int ((d + 1 : Nat) : Int))), some (.own (nL (c0 :: ls0))), some (.d (nI c)), some (.d (.str o)), some (.own []), none, none, none, none] := by
            simp only [z_ob, z_om, z_b1, z_b2, z_be1, z_be2, z_bs1, z_bs2, z_bs3, z_bl1, z_bl2, z_bc1, z_bc2, z_cr1, z_cr2, z_or, z_os, z_oo, z_ol, z_oB, z_name, z_sn1, z_sn2, z_sn3, z_sn5, z_sn6, z_sn7, z_sn8, z_sn4, z_rs1, z_rs2, z_rs3, z_rs4, z_sr1, z_sr2, z_sr3, z_rss0, z_rss1, z_es, z_es1, z_es2, z_est, z_e1, z_e2, z_e4, z_se1, z_se2, z_se3, z_e5, z_nb4, z_nb5, z_nb6, z_a5, z_a6, z_a7, z_nb0, z_nb1, z_nb2, z_nb3, z_a1, z_a2, z_a3, z_a4, z_c, z_u2, z_u1, z_un, z_ev0, z_ev1, z_tup, z_lst, z_dt0, z_dt1, z_d1, z_isB, z_bt, z_bf, z_st, z_sf, z_and, z_dor, z_ite, z_not, z_no, z_chain, z_isi, z_iw1, z_iw2, z_iw3, z_isN, z_notN, z_nw1, z_nw2, z_mul, z_mw1, z_mw2, z_sl, z_po0, z_po1, z_io, z_oa, z_so1, z_so2, z_up, z_su1, z_su2, z_mut, z_mo, z_mt, z_meth, z_seq, z_next, z_asg, z_if, z_ret, z_rt, z_m1, z_m2, z_m3, z_m5, z_m6, z_m7, z_sm3, z_sm4, z_f5, z_f6, z_f7, z_k5, z_r4, z_r5, z_r6, z_m4, z_sm1, z_sm2, z_drop, z_raise, z_has, z_ho, z_seti, z_sI, z_fn, z_ent, z_f1, z_f2, z_f3, z_f4, z_k0, z_k1, z_k2, z_k3, z_k4, z_call, z_r1, z_r2, z_r3, z_callB, z_for, z_bls1, z_outR, z_fg0, z_fg1, z_lp1, z_lp2, z_lp3, z_it1, z_it2, z_rn0, z_asgT, z_tt, z_ta0, z_ta1, z_par, z_two, z_setW, List.getElem?_cons_zero, List.getElem?_cons_succ, List.set_cons_zero, List.set_cons_succ, List.map_cons, List.map_nil, List.length_cons, List.length_nil, List.cons_append, List.nil_append, List.replicate, Nat.zero_add, Nat.reduceAdd, Nat.reduceSub, if_true, List.append_nil, q_addI, q_sub, q_neg, q_cmp, q_ixL, q_ixT, q_lenL, q_lenT, q_int, q_max, q_min, q_tupL, q_lstT, q_isB, q_slL, q_slT, q_eqS, q_neS, q_tn, q_at0, q_rev, q_isNB, q_tupT, q_lstL, c4, ev]
          have run := (for_R (tg := tgName 8) (s := lp_law_tree_1) evv (rng_nat (by omega : v ≤ 1000))).trans k4
          have au : opAdd (.list (nL us)) (.list [nI c]) = some (.own (nL us ++ [nI c])) := q_addL (by rw [nL_len]; simp only [List.length_cons, List.length_nil]; omega)
          have eu : nL us ++ [nI c] = nL (us ++ [c]) := nL_app (b := [c])
          rw [eu] at au
          have hu2 : ∀ x ∈ us ++ [c], x < 10 := fun x hx => by
            rcases List.mem_append.mp hx with z | z
            · exact hu x z
            · rw [List.mem_singleton.mp z]; omega
          have fu2 : (us ++ [c]).length + d ≤ 6 := by rw [List.length_append]; simp only [List.length_cons, List.length_nil]; omega
          have ih := fun n => tree_ok hc l6 d fuel (by omega) (by omega) n (us ++ [c]) hu2 fu2
          have dd : (((d + 1 : Nat) : Int)) = (d : Int) + 1 := by omega
          have dm : ((d : Int) + 1 - 1) = (d : Int) := by omega
          obtain ⟨n5, bs, o10, h10, b1, b2, b3⟩ := below_loop (F := fn__law_tree fuel) ih (some (.d (.list (nL us)))) (some (.own (nL (c0 :: ls0)))) (some (.d (nI c))) (some (.d (.str o))) (some (.d (.list vs))) u8 vs n4 [] (some (.own (nL (us ++ [c])))) (.inl rfl) k2 (by simp only [List.length_nil]; omega)
          obtain ⟨n6, rt, hrt, er⟩ := ih n5
          have kb : bs.length ≤ 3 := by
            have := congrArg List.length b1
            rw [List.length_map] at this
            omega
          have lcx : dLc (dName 7) [9] (tgName 9) (dC (.bool true)) (el_law_tree_1 (fn__law_tree fuel)) [some (.brw [.int n4]), some (.d (.list cs)), some (.d (.list (nL us))), some (.d (.int ((d : Int) + 1))), some (.own (nL (c0 :: ls0))), some (.d (nI c)), some (.d (.str o)), some (.own vs), u8, u9, some (.own (nL (us ++ [c]))), none] =
              .ok (.own (bs.map tD2)) [some (.brw [.int n5]), some (.d (.list cs)), some (.d (.list (nL us))), some (.d (.int ((d : Int) + 1))), some (.own (nL (c0 :: ls0))), some (.d (nI c)), some (.d (.str o)), some (.d (.list vs)), u8, u9, o10, none] := by
            rw [z_dlc (e1 := [some (.brw [.int n4]), some (.d (.list cs)), some (.d (.list (nL us))), some (.d (.int ((d : Int) + 1))), some (.own (nL (c0 :: ls0))), some (.d (nI c)), some (.d (.str o)), some (.d (.list vs)), u8, u9, some (.own (nL (us ++ [c]))), none]) (x := .list vs) (xs := vs) rfl (by
              show (notOwn (some u9) && true) = true
              rw [k0]
              rfl) rfl]
            show outC (lcGo [9] (tgName 9) (dC (.bool true)) (el_law_tree_1 (fn__law_tree fuel)) vs [some (.brw [.int n4]), some (.d (.list cs)), some (.d (.list (nL us))), some (.d (.int ((d : Int) + 1))), some (.own (nL (c0 :: ls0))), some (.d (nI c)), some (.d (.str o)), some (.d (.list vs)), u8, none, some (.own (nL (us ++ [c]))), none] []) _ _ = _
            rw [b3]
            rfl
          have cr : ∀ r : En, callB 4 (fn__law_tree fuel) [.loc 0, .d (.list cs), .d (.list (nL (us ++ [c]))), .d (.int (d : Int))] (some (.brw [.int n5]) :: r) = .ok (.d rt) (some (.brw [.int n6]) :: r) := fun r => cbB (k := 4) (us := [.d (.list cs), .d (.list (nL (us ++ [c]))), .d (.int (d : Int))]) rfl er (.inl rfl)
          refine ⟨n6, nodeD c o bs rt, .inr ⟨c, o, bs, rt, rfl, ⟨lt, ss, ⟨eco, hs, ne⟩, ho⟩, nu, kb, by rw [b1]; exact k1, b2, hrt⟩, ?_⟩
          rw [dd] at run
          have le := le
          rw [dd] at le
          rw [dd]
          have nz2 : ¬ ((d : Int) + 1) = 0 := by omega
          rcases h10 with rfl | rfl
          · simp only [z_ob, z_om, z_b1, z_b2, z_be1, z_be2, z_bs1, z_bs2, z_bs3, z_bl1, z_bl2, z_bc1, z_bc2, z_cr1, z_cr2, z_or, z_os, z_oo, z_ol, z_oB, z_name, z_sn1, z_sn2, z_sn3, z_sn5, z_sn6, z_sn7, z_sn8, z_sn4, z_rs1, z_rs2, z_rs3, z_rs4, z_sr1, z_sr2, z_sr3, z_rss0, z_rss1, z_es, z_es1, z_es2, z_est, z_e1, z_e2, z_e4, z_se1, z_se2, z_se3, z_e5, z_nb4, z_nb5, z_nb6, z_a5, z_a6, z_a7, z_nb0, z_nb1, z_nb2, z_nb3, z_a1, z_a2, z_a3, z_a4, z_c, z_u2, z_u1, z_un, z_ev0, z_ev1, z_tup, z_lst, z_dt0, z_dt1, z_d1, z_isB, z_bt, z_bf, z_st, z_sf, z_and, z_dor, z_ite, z_not, z_no, z_chain, z_isi, z_iw1, z_iw2, z_iw3, z_isN, z_notN, z_nw1, z_nw2, z_mul, z_mw1, z_mw2, z_sl, z_po0, z_po1, z_io, z_oa, z_so1, z_so2, z_up, z_su1, z_su2, z_mut, z_mo, z_mt, z_meth, z_seq, z_next, z_asg, z_if, z_ret, z_rt, z_m1, z_m2, z_m3, z_m5, z_m6, z_m7, z_sm3, z_sm4, z_f5, z_f6, z_f7, z_k5, z_r4, z_r5, z_r6, z_m4, z_sm1, z_sm2, z_drop, z_raise, z_has, z_ho, z_seti, z_sI, z_fn, z_ent, z_f1, z_f2, z_f3, z_f4, z_k0, z_k1, z_k2, z_k3, z_k4, z_call, z_r1, z_r2, z_r3, z_callB, z_for, z_bls1, z_outR, z_fg0, z_fg1, z_lp1, z_lp2, z_lp3, z_it1, z_it2, z_rn0, z_asgT, z_tt, z_ta0, z_ta1, z_par, z_two, z_setW, List.getElem?_cons_zero, List.getElem?_cons_succ, List.set_cons_zero, List.set_cons_succ, List.map_cons, List.map_nil, List.length_cons, List.length_nil, List.cons_append, List.nil_append, List.replicate, Nat.zero_add, Nat.reduceAdd, Nat.reduceSub, if_true, List.append_nil, q_addI, q_sub, q_neg, q_cmp, q_ixL, q_ixT, q_lenL, q_lenT, q_int, q_max, q_min, q_tupL, q_lstT, q_isB, q_slL, q_slT, q_eqS, q_neS, q_tn, q_at0, q_rev, q_isNB, q_tupT, q_lstL, le, l0, l1', l4, eqn, q_eqI, decide_eq_false nz2, c6, decide_eq_false six, ck, ek, a1, a2, cj, a3, ← en3, run, au, lcx, dm, cr]
          · simp only [z_ob, z_om, z_b1, z_b2, z_be1, z_be2, z_bs1, z_bs2, z_bs3, z_bl1, z_bl2, z_bc1, z_bc2, z_cr1, z_cr2, z_or, z_os, z_oo, z_ol, z_oB, z_name, z_sn1, z_sn2, z_sn3, z_sn5, z_sn6, z_sn7, z_sn8, z_sn4, z_rs1, z_rs2, z_rs3, z_rs4, z_sr1, z_sr2, z_sr3, z_rss0, z_rss1, z_es, z_es1, z_es2, z_est, z_e1, z_e2, z_e4, z_se1, z_se2, z_se3, z_e5, z_nb4, z_nb5, z_nb6, z_a5, z_a6, z_a7, z_nb0, z_nb1, z_nb2, z_nb3, z_a1, z_a2, z_a3, z_a4, z_c, z_u2, z_u1, z_un, z_ev0, z_ev1, z_tup, z_lst, z_dt0, z_dt1, z_d1, z_isB, z_bt, z_bf, z_st, z_sf, z_and, z_dor, z_ite, z_not, z_no, z_chain, z_isi, z_iw1, z_iw2, z_iw3, z_isN, z_notN, z_nw1, z_nw2, z_mul, z_mw1, z_mw2, z_sl, z_po0, z_po1, z_io, z_oa, z_so1, z_so2, z_up, z_su1, z_su2, z_mut, z_mo, z_mt, z_meth, z_seq, z_next, z_asg, z_if, z_ret, z_rt, z_m1, z_m2, z_m3, z_m5, z_m6, z_m7, z_sm3, z_sm4, z_f5, z_f6, z_f7, z_k5, z_r4, z_r5, z_r6, z_m4, z_sm1, z_sm2, z_drop, z_raise, z_has, z_ho, z_seti, z_sI, z_fn, z_ent, z_f1, z_f2, z_f3, z_f4, z_k0, z_k1, z_k2, z_k3, z_k4, z_call, z_r1, z_r2, z_r3, z_callB, z_for, z_bls1, z_outR, z_fg0, z_fg1, z_lp1, z_lp2, z_lp3, z_it1, z_it2, z_rn0, z_asgT, z_tt, z_ta0, z_ta1, z_par, z_two, z_setW, List.getElem?_cons_zero, List.getElem?_cons_succ, List.set_cons_zero, List.set_cons_succ, List.map_cons, List.map_nil, List.length_cons, List.length_nil, List.cons_append, List.nil_append, List.replicate, Nat.zero_add, Nat.reduceAdd, Nat.reduceSub, if_true, List.append_nil, q_addI, q_sub, q_neg, q_cmp, q_ixL, q_ixT, q_lenL, q_lenT, q_int, q_max, q_min, q_tupL, q_lstT, q_isB, q_slL, q_slT, q_eqS, q_neS, q_tn, q_at0, q_rev, q_isNB, q_tupT, q_lstL, le, l0, l1', l4, eqn, q_eqI, decide_eq_false nz2, c6, decide_eq_false six, ck, ek, a1, a2, cj, a3, ← en3, run, au, lcx, dm, cr]
end Vf.Law
/-! What the program tells of steps, flat rules. -/
namespace Vf.Law
open PySem PySem.Spec L2
def wholeB : PyData → Bool
  | .int _ => true
  | _ => false
theorem whole_is {v : PyData} (h : Lite 60 v) : fn_is_whole [.d v] = .ok (.d (.bool (wholeB v))) [.d v] := by
  cases v with
  | dict x => exact h.ndict.elim
  | _ => rfl
def belowB (m : Int) : PyData → Bool
  | .int i => decide (0 ≤ i) && decide (i < m)
  | _ => false
theorem below_is (m : Int) {v : PyData} (h : Lite 60 v) : fn_is_number_below [.d (.int m), .d v] = .ok (.d (.bool (belowB m v))) [.d (.int m), .d v] := by
  have cv := call_val (k := 1) rfl (whole_is h)
  unfold fn_is_number_below dn_is_number_below
  cases v with
  | dict x => exact h.ndict.elim
  | int i =>
    have cv : ∀ e : En, callV 1 fn_is_whole [.d (.int i)] e = .ok (.d (.bool true)) e := cv
    cases a : decide (0 ≤ i) with
    | false => simp only [z_ob, z_om, z_b1, z_b2, z_be1, z_be2, z_bs1, z_bs2, z_bs3, z_bl1, z_bl2, z_bc1, z_bc2, z_cr1, z_cr2, z_or, z_os, z_oo, z_ol, z_oB, z_name, z_sn1, z_sn2, z_sn3, z_sn5, z_sn6, z_sn7, z_sn8, z_sn4, z_rs1, z_rs2, z_rs3, z_rs4, z_sr1, z_sr2, z_sr3, z_rss0, z_rss1, z_es, z_es1, z_es2, z_est, z_e1, z_e2, z_e4, z_se1, z_se2, z_se3, z_e5, z_nb4, z_nb5, z_nb6, z_a5, z_a6, z_a7, z_nb0, z_nb1, z_nb2, z_nb3, z_a1, z_a2, z_a3, z_a4, z_c, z_u2, z_u1, z_un, z_ev0, z_ev1, z_tup, z_lst, z_dt0, z_dt1, z_d1, z_isB, z_bt, z_bf, z_st, z_sf, z_and, z_dor, z_ite, z_not, z_no, z_chain, z_isi, z_iw1, z_iw2, z_iw3, z_isN, z_notN, z_nw1, z_nw2, z_mul, z_mw1, z_mw2, z_sl, z_po0, z_po1, z_io, z_oa, z_so1, z_so2, z_up, z_su1, z_su2, z_mut, z_mo, z_mt, z_meth, z_seq, z_next, z_asg, z_if, z_ret, z_rt, z_m1, z_m2, z_m3, z_m5, z_m6, z_m7, z_sm3, z_sm4, z_f5, z_f6, z_f7, z_k5, z_r4, z_r5, z_r6, z_m4, z_sm1, z_sm2, z_drop, z_raise, z_has, z_ho, z_seti, z_sI, z_fn, z_ent, z_f1, z_f2, z_f3, z_f4, z_k0, z_k1, z_k2, z_k3, z_k4, z_call, z_r1, z_r2, z_r3, z_callB, z_for, z_bls1, z_outR, z_fg0, z_fg1, z_lp1, z_lp2, z_lp3, z_it1, z_it2, z_rn0, z_asgT, z_tt, z_ta0, z_ta1, z_par, z_two, z_setW, List.getElem?_cons_zero, List.getElem?_cons_succ, List.set_cons_zero, List.set_cons_succ, List.map_cons, List.map_nil, List.length_cons, List.length_nil, List.cons_append, List.nil_append, List.replicate, Nat.zero_add, Nat.reduceAdd, Nat.reduceSub, if_true, List.append_nil, q_addI, q_sub, q_neg, q_cmp, q_ixL, q_ixT, q_lenL, q_lenT, q_int, q_max, q_min, q_tupL, q_lstT, q_isB, q_slL, q_slT, q_eqS, q_neS, q_tn, q_at0, q_rev, q_isNB, q_tupT, q_lstL, cv, a, belowB, Bool.false_and]
    | true => simp only [z_ob, z_om, z_b1, z_b2, z_be1, z_be2, z_bs1, z_bs2, z_bs3, z_bl1, z_bl2, z_bc1, z_bc2, z_cr1, z_cr2, z_or, z_os, z_oo, z_ol, z_oB, z_name, z_sn1, z_sn2, z_sn3, z_sn5, z_sn6, z_sn7, z_sn8, z_sn4, z_rs1, z_rs2, z_rs3, z_rs4, z_sr1, z_sr2, z_sr3, z_rss0, z_rss1, z_es, z_es1, z_es2, z_est, z_e1, z_e2, z_e4, z_se1, z_se2, z_se3, z_e5, z_nb4, z_nb5, z_nb6, z_a5, z_a6, z_a7, z_nb0, z_nb1, z_nb2, z_nb3, z_a1, z_a2, z_a3, z_a4, z_c, z_u2, z_u1, z_un, z_ev0, z_ev1, z_tup, z_lst, z_dt0, z_dt1, z_d1, z_isB, z_bt, z_bf, z_st, z_sf, z_and, z_dor, z_ite, z_not, z_no, z_chain, z_isi, z_iw1, z_iw2, z_iw3, z_isN, z_notN, z_nw1, z_nw2, z_mul, z_mw1, z_mw2, z_sl, z_po0, z_po1, z_io, z_oa, z_so1, z_so2, z_up, z_su1, z_su2, z_mut, z_mo, z_mt, z_meth, z_seq, z_next, z_asg, z_if, z_ret, z_rt, z_m1, z_m2, z_m3, z_m5, z_m6, z_m7, z_sm3, z_sm4, z_f5, z_f6, z_f7, z_k5, z_r4, z_r5, z_r6, z_m4, z_sm1, z_sm2, z_drop, z_raise, z_has, z_ho, z_seti, z_sI, z_fn, z_ent, z_f1, z_f2, z_f3, z_f4, z_k0, z_k1, z_k2, z_k3, z_k4, z_call, z_r1, z_r2, z_r3, z_callB, z_for, z_bls1, z_outR, z_fg0, z_fg1, z_lp1, z_lp2, z_lp3, z_it1, z_it2, z_rn0, z_asgT, z_tt, z_ta0, z_ta1, z_par, z_two, z_setW, List.getElem?_cons_zero, List.getElem?_cons_succ, List.set_cons_zero, List.set_cons_succ, List.map_cons, List.map_nil, List.length_cons, List.length_nil, List.cons_append, List.nil_append, List.replicate, Nat.zero_add, Nat.reduceAdd, Nat.reduceSub, if_true, List.append_nil, q_addI, q_sub, q_neg, q_cmp, q_ixL, q_ixT, q_lenL, q_lenT, q_int, q_max, q_min, q_tupL, q_lstT, q_isB, q_slL, q_slT, q_eqS, q_neS, q_tn, q_at0, q_rev, q_isNB, q_tupT, q_lstL, cv, a, belowB, Bool.true_and]
  | none =>
    have cv : ∀ e : En, callV 1 fn_is_whole [.d .none] e = .ok (.d (.bool false)) e := cv
    simp only [z_ob, z_om, z_b1, z_b2, z_be1, z_be2, z_bs1, z_bs2, z_bs3, z_bl1, z_bl2, z_bc1, z_bc2, z_cr1, z_cr2, z_or, z_os, z_oo, z_ol, z_oB, z_name, z_sn1, z_sn2, z_sn3, z_sn5, z_sn6, z_sn7, z_sn8, z_sn4, z_rs1, z_rs2, z_rs3, z_rs4, z_sr1, z_sr2, z_sr3, z_rss0, z_rss1, z_es, z_es1, z_es2, z_est, z_e1, z_e2, z_e4, z_se1, z_se2, z_se3, z_e5, z_nb4, z_nb5, z_nb6, z_a5, z_a6, z_a7, z_nb0, z_nb1, z_nb2, z_nb3, z_a1, z_a2, z_a3, z_a4, z_c, z_u2, z_u1, z_un, z_ev0, z_ev1, z_tup, z_lst, z_dt0, z_dt1, z_d1, z_isB, z_bt, z_bf, z_st, z_sf, z_and, z_dor, z_ite, z_not, z_no, z_chain, z_isi, z_iw1, z_iw2, z_iw3, z_isN, z_notN, z_nw1, z_nw2, z_mul, z_mw1, z_mw2, z_sl, z_po0, z_po1, z_io, z_oa, z_so1, z_so2, z_up, z_su1, z_su2, z_mut, z_mo, z_mt, z_meth, z_seq, z_next, z_asg, z_if, z_ret, z_rt, z_m1, z_m2, z_m3, z_m5, z_m6, z_m7, z_sm3, z_sm4, z_f5, z_f6, z_f7, z_k5, z_r4, z_r5, z_r6, z_m4, z_sm1, z_sm2, z_drop, z_raise, z_has, z_ho, z_seti, z_sI, z_fn, z_ent, z_f1, z_f2, z_f3, z_f4, z_k0, z_k1, z_k2, z_k3, z_k4, z_call, z_r1, z_r2, z_r3, z_callB, z_for, z_bls1, z_outR, z_fg0, z_fg1, z_lp1, z_lp2, z_lp3, z_it1, z_it2, z_rn0, z_asgT, z_tt, z_ta0, z_ta1, z_par, z_two, z_setW, List.getElem?_cons_zero, List.getElem?_cons_succ, List.set_cons_zero, List.set_cons_succ, List.map_cons, List.map_nil, List.length_cons, List.length_nil, List.cons_append, List.nil_append, List.replicate, Nat.zero_add, Nat.reduceAdd, Nat.reduceSub, if_true, List.append_nil, q_addI, q_sub, q_neg, q_cmp, q_ixL, q_ixT, q_lenL, q_lenT, q_int, q_max, q_min, q_tupL, q_lstT, q_isB, q_slL, q_slT, q_eqS, q_neS, q_tn, q_at0, q_rev, q_isNB, q_tupT, q_lstL, cv, belowB]
  | bool b =>
    have cv : ∀ e : En, callV 1 fn_is_whole [.d (.bool b)] e = .ok (.d (.bool false)) e := cv
    simp only [z_ob, z_om, z_b1, z_b2, z_be1, z_be2, z_bs1, z_bs2, z_bs3, z_bl1, z_bl2, z_bc1, z_bc2, z_cr1, z_cr2, z_or, z_os, z_oo, z_ol, z_oB, z_name, z_sn1, z_sn2, z_sn3, z_sn5, z_sn6, z_sn7, z_sn8, z_sn4, z_rs1, z_rs2, z_rs3, z_rs4, z_sr1, z_sr2, z_sr3, z_rss0, z_rss1, z_es, z_es1, z_es2, z_est, z_e1, z_e2, z_e4, z_se1, z_se2, z_se3, z_e5, z_nb4, z_nb5, z_nb6, z_a5, z_a6, z_a7, z_nb0, z_nb1, z_nb2, z_nb3, z_a1, z_a2, z_a3, z_a4, z_c, z_u2, z_u1, z_un, z_ev0, z_ev1, z_tup, z_lst, z_dt0, z_dt1, z_d1, z_isB, z_bt, z_bf, z_st, z_sf, z_and, z_dor, z_ite, z_not, z_no, z_chain, z_isi, z_iw1, z_iw2, z_iw3, z_isN, z_notN, z_nw1, z_nw2, z_mul, z_mw1, z_mw2, z_sl, z_po0, z_po1, z_io, z_oa, z_so1, z_so2, z_up, z_su1, z_su2, z_mut, z_mo, z_mt, z_meth, z_seq, z_next, z_asg, z_if, z_ret, z_rt, z_m1, z_m2, z_m3, z_m5, z_m6, z_m7, z_sm3, z_sm4, z_f5, z_f6, z_f7, z_k5, z_r4, z_r5, z_r6, z_m4, z_sm1, z_sm2, z_drop, z_raise, z_has, z_ho, z_seti, z_sI, z_fn, z_ent, z_f1, z_f2, z_f3, z_f4, z_k0, z_k1, z_k2, z_k3, z_k4, z_call, z_r1, z_r2, z_r3, z_callB, z_for, z_bls1, z_outR, z_fg0, z_fg1, z_lp1, z_lp2, z_lp3, z_it1, z_it2, z_rn0, z_asgT, z_tt, z_ta0, z_ta1, z_par, z_two, z_setW, List.getElem?_cons_zero, List.getElem?_cons_succ, List.set_cons_zero, List.set_cons_succ, List.map_cons, List.map_nil, List.length_cons, List.length_nil, List.cons_append, List.nil_append, List.replicate, Nat.zero_add, Nat.reduceAdd, Nat.reduceSub, if_true, List.append_nil, q_addI, q_sub, q_neg, q_cmp, q_ixL, q_ixT, q_lenL, q_lenT, q_int, q_max, q_min, q_tupL, q_lstT, q_isB, q_slL, q_slT, q_eqS, q_neS, q_tn, q_at0, q_rev, q_isNB, q_tupT, q_lstL, cv, belowB]
  | str b =>
    have cv : ∀ e : En, callV 1 fn_is_whole [.d (.str b)] e = .ok (.d (.bool false)) e := cv
    simp only [z_ob, z_om, z_b1, z_b2, z_be1, z_be2, z_bs1, z_bs2, z_bs3, z_bl1, z_bl2, z_bc1, z_bc2, z_cr1, z_cr2, z_or, z_os, z_oo, z_ol, z_oB, z_name, z_sn1, z_sn2, z_sn3, z_sn5, z_sn6, z_sn7, z_sn8, z_sn4, z_rs1, z_rs2, z_rs3, z_rs4, z_sr1, z_sr2, z_sr3, z_rss0, z_rss1, z_es, z_es1, z_es2, z_est, z_e1, z_e2, z_e4, z_se1, z_se2, z_se3, z_e5, z_nb4, z_nb5, z_nb6, z_a5, z_a6, z_a7, z_nb0, z_nb1, z_nb2, z_nb3, z_a1, z_a2, z_a3, z_a4, z_c, z_u2, z_u1, z_un, z_ev0, z_ev1, z_tup, z_lst, z_dt0, z_dt1, z_d1, z_isB, z_bt, z_bf, z_st, z_sf, z_and, z_dor, z_ite, z_not, z_no, z_chain, z_isi, z_iw1, z_iw2, z_iw3, z_isN, z_notN, z_nw1, z_nw2, z_mul, z_mw1, z_mw2, z_sl, z_po0, z_po1, z_io, z_oa, z_so1, z_so2, z_up, z_su1, z_su2, z_mut, z_mo, z_mt, z_meth, z_seq, z_next, z_asg, z_if, z_ret, z_rt, z_m1, z_m2, z_m3, z_m5, z_m6, z_m7, z_sm3, z_sm4, z_f5, z_f6, z_f7, z_k5, z_r4, z_r5, z_r6, z_m4, z_sm1, z_sm2, z_drop, z_raise, z_has, z_ho, z_seti, z_sI, z_fn, z_ent, z_f1, z_f2, z_f3, z_f4, z_k0, z_k1, z_k2, z_k3, z_k4, z_call, z_r1, z_r2, z_r3, z_callB, z_for, z_bls1, z_outR, z_fg0, z_fg1, z_lp1, z_lp2, z_lp3, z_it1, z_it2, z_rn0, z_asgT, z_tt, z_ta0, z_ta1, z_par, z_two, z_setW, List.getElem?_cons_zero, List.getElem?_cons_succ, List.set_cons_zero, List.set_cons_succ, List.map_cons, List.map_nil, List.length_cons, List.length_nil, List.cons_append, List.nil_append, List.replicate, Nat.zero_add, Nat.reduceAdd, Nat.reduceSub, if_true, List.append_nil, q_addI, q_sub, q_neg, q_cmp, q_ixL, q_ixT, q_lenL, q_lenT, q_int, q_max, q_min, q_tupL, q_lstT, q_isB, q_slL, q_slT, q_eqS, q_neS, q_tn, q_at0, q_rev, q_isNB, q_tupT, q_lstL, cv, belowB]
  | list b =>
    have cv : ∀ e : En, callV 1 fn_is_whole [.d (.list b)] e = .ok (.d (.bool false)) e := cv
    simp only [z_ob, z_om, z_b1, z_b2, z_be1, z_be2, z_bs1, z_bs2, z_bs3, z_bl1, z_bl2, z_bc1, z_bc2, z_cr1, z_cr2, z_or, z_os, z_oo, z_ol, z_oB, z_name, z_sn1, z_sn2, z_sn3, z_sn5, z_sn6, z_sn7, z_sn8, z_sn4, z_rs1, z_rs2, z_rs3, z_rs4, z_sr1, z_sr2, z_sr3, z_rss0, z_rss1, z_es, z_es1, z_es2, z_est, z_e1, z_e2, z_e4, z_se1, z_se2, z_se3, z_e5, z_nb4, z_nb5, z_nb6, z_a5, z_a6, z_a7, z_nb0, z_nb1, z_nb2, z_nb3, z_a1, z_a2, z_a3, z_a4, z_c, z_u2, z_u1, z_un, z_ev0, z_ev1, z_tup, z_lst, z_dt0, z_dt1, z_d1, z_isB, z_bt, z_bf, z_st, z_sf, z_and, z_dor, z_ite, z_not, z_no, z_chain, z_isi, z_iw1, z_iw2, z_iw3, z_isN, z_notN, z_nw1, z_nw2, z_mul, z_mw1, z_mw2, z_sl, z_po0, z_po1, z_io, z_oa, z_so1, z_so2, z_up, z_su1, z_su2, z_mut, z_mo, z_mt, z_meth, z_seq, z_next, z_asg, z_if, z_ret, z_rt, z_m1, z_m2, z_m3, z_m5, z_m6, z_m7, z_sm3, z_sm4, z_f5, z_f6, z_f7, z_k5, z_r4, z_r5, z_r6, z_m4, z_sm1, z_sm2, z_drop, z_raise, z_has, z_ho, z_seti, z_sI, z_fn, z_ent, z_f1, z_f2, z_f3, z_f4, z_k0, z_k1, z_k2, z_k3, z_k4, z_call, z_r1, z_r2, z_r3, z_callB, z_for, z_bls1, z_outR, z_fg0, z_fg1, z_lp1, z_lp2, z_lp3, z_it1, z_it2, z_rn0, z_asgT, z_tt, z_ta0, z_ta1, z_par, z_two, z_setW, List.getElem?_cons_zero, List.getElem?_cons_succ, List.set_cons_zero, List.set_cons_succ, List.map_cons, List.map_nil, List.length_cons, List.length_nil, List.cons_append, List.nil_append, List.replicate, Nat.zero_add, Nat.reduceAdd, Nat.reduceSub, if_true, List.append_nil, q_addI, q_sub, q_neg, q_cmp, q_ixL, q_ixT, q_lenL, q_lenT, q_int, q_max, q_min, q_tupL, q_lstT, q_isB, q_slL, q_slT, q_eqS, q_neS, q_tn, q_at0, q_rev, q_isNB, q_tupT, q_lstL, cv, belowB]
  | tuple b =>
    have cv : ∀ e : En, callV 1 fn_is_whole [.d (.tuple b)] e = .ok (.d (.bool false)) e := cv
    simp only [z_ob, z_om, z_b1, z_b2, z_be1, z_be2, z_bs1, z_bs2, z_bs3, z_bl1, z_bl2, z_bc1, z_bc2, z_cr1, z_cr2, z_or, z_os, z_oo, z_ol, z_oB, z_name, z_sn1, z_sn2, z_sn3, z_sn5, z_sn6, z_sn7, z_sn8, z_sn4, z_rs1, z_rs2, z_rs3, z_rs4, z_sr1, z_sr2, z_sr3, z_rss0, z_rss1, z_es, z_es1, z_es2, z_est, z_e1, z_e2, z_e4, z_se1, z_se2, z_se3, z_e5, z_nb4, z_nb5, z_nb6, z_a5, z_a6, z_a7, z_nb0, z_nb1, z_nb2, z_nb3, z_a1, z_a2, z_a3, z_a4, z_c, z_u2, z_u1, z_un, z_ev0, z_ev1, z_tup, z_lst, z_dt0, z_dt1, z_d1, z_isB, z_bt, z_bf, z_st, z_sf, z_and, z_dor, z_ite, z_not, z_no, z_chain, z_isi, z_iw1, z_iw2, z_iw3, z_isN, z_notN, z_nw1, z_nw2, z_mul, z_mw1, z_mw2, z_sl, z_po0, z_po1, z_io, z_oa, z_so1, z_so2, z_up, z_su1, z_su2, z_mut, z_mo, z_mt, z_meth, z_seq, z_next, z_asg, z_if, z_ret, z_rt, z_m1, z_m2, z_m3, z_m5, z_m6, z_m7, z_sm3, z_sm4, z_f5, z_f6, z_f7, z_k5, z_r4, z_r5, z_r6, z_m4, z_sm1, z_sm2, z_drop, z_raise, z_has, z_ho, z_seti, z_sI, z_fn, z_ent, z_f1, z_f2, z_f3, z_f4, z_k0, z_k1, z_k2, z_k3, z_k4, z_call, z_r1, z_r2, z_r3, z_callB, z_for, z_bls1, z_outR, z_fg0, z_fg1, z_lp1, z_lp2, z_lp3, z_it1, z_it2, z_rn0, z_asgT, z_tt, z_ta0, z_ta1, z_par, z_two, z_setW, List.getElem?_cons_zero, List.getElem?_cons_succ, List.set_cons_zero, List.set_cons_succ, List.map_cons, List.map_nil, List.length_cons, List.length_nil, List.cons_append, List.nil_append, List.replicate, Nat.zero_add, Nat.reduceAdd, Nat.reduceSub, if_true, List.append_nil, q_addI, q_sub, q_neg, q_cmp, q_ixL, q_ixT, q_lenL, q_lenT, q_int, q_max, q_min, q_tupL, q_lstT, q_isB, q_slL, q_slT, q_eqS, q_neS, q_tn, q_at0, q_rev, q_isNB, q_tupT, q_lstL, cv, belowB]
/-- is it an order that stands there -/
def inCol (cs : List PyData) (c : Int) (o : PyData) : Bool := match atI cs c with
  | some (.tuple ss) => ss.any fun z => PyData.eqv z o
  | _ => false
def stepB (cs : List PyData) : PyData → Bool
  | .tuple [.int c, o] => (decide (0 ≤ c) && decide (c < (cs.length : Int))) && inCol cs c o
  | _ => false
theorem in_col {cs : List PyData} (hc : Cols cs) {c : Int} (h0 : 0 ≤ c) (h1 : c < (cs.length : Int)) {o : PyData} (ho : Lite 60 o) : ∃ ss : List Str, atI cs c = some (.tuple (ss.map PyData.str)) ∧ opIn o (.tuple (ss.map PyData.str)) = some (.d (.bool (inCol cs c o))) := by
  obtain ⟨n, rfl⟩ : ∃ n : Nat, c = (n : Int) := ⟨c.toNat, by omega⟩
  obtain ⟨ss, e, hs, _⟩ := col_at hc (c := n) (by omega)
  have a : atI cs (n : Int) = some (.tuple (ss.map PyData.str)) := q_at e
  refine ⟨ss, a, ?_⟩
  have sh : SeqAt.shaped (.tuple (ss.map PyData.str)) = true := (nice_tup (n := 4) (col_nice hs.of) (by rw [List.length_map]; exact hs.few)).shaped (by decide)
  have e : inD o (.tuple (ss.map PyData.str)) = some (inCol cs (n : Int) o) := by
    show (if (SeqAt.shaped o && SeqAt.shaped (.tuple (ss.map PyData.str))) = true then some ((ss.map PyData.str).any fun z => PyData.eqv z o) else none) = _
    rw [ho.shaped (by decide), sh]
    unfold inCol
    rw [a]
    rfl
  show (inD o _).map _ = _
  rw [e]
  rfl
theorem check_call {cs : List PyData} (hc : Cols cs) (l : 1 ≤ cs.length ∧ cs.length ≤ 6) : ∀ e : En, callV 1 fn_check_schema [.d (.list cs)] e = .ok (.d .none) e := call_val (k := 1) rfl (check_good (sch_good hc l))
theorem step_is {cs : List PyData} (hc : Cols cs) (l : 1 ≤ cs.length ∧ cs.length ≤ 6) {x : PyData} (hx : Lite 60 x) : fn_is_step [.d (.list cs), .d x] = .ok (.d (.bool (stepB cs x))) [.d (.list cs), .d x] := by
  have cc := check_call hc l
  unfold fn_is_step dn_is_step
  cases x with
  | dict x => exact hx.ndict.elim
  | tuple xs =>
    have at_ : aTuple (.tuple xs) = some true := rfl
    have parts := Lite.tup hx
    match xs, parts with
    | [a, b], parts =>
      have ha := (parts a List.mem_cons_self).mono (show 59 ≤ 60 by decide)
      have hb := (parts b (List.mem_cons_of_mem _ List.mem_cons_self)).mono (show 59 ≤ 60 by decide)
      have cb := call_val (k := 2) rfl (below_is (cs.length : Int) ha)
      have two : decide (((2 : Nat) : Int) = 2) = true := rfl
      cases q : belowB (cs.length : Int) a with
      | false =>
        rw [q] at cb
        have r : stepB cs (.tuple [a, b]) = false := by
          cases a with
          | int i =>
            show ((decide (0 ≤ i) && decide (i < (cs.length : Int))) && inCol cs i b) = false
            rw [show (decide (0 ≤ i) && decide (i < (cs.length : Int))) = false from q]
            rfl
          | _ => rfl
        simp only [z_ob, z_om, z_b1, z_b2, z_be1, z_be2, z_bs1, z_bs2, z_bs3, z_bl1, z_bl2, z_bc1, z_bc2, z_cr1, z_cr2, z_or, z_os, z_oo, z_ol, z_oB, z_name, z_sn1, z_sn2, z_sn3, z_sn5, z_sn6, z_sn7, z_sn8, z_sn4, z_rs1, z_rs2, z_rs3, z_rs4, z_sr1, z_sr2, z_sr3, z_rss0, z_rss1, z_es, z_es1, z_es2, z_est, z_e1, z_e2, z_e4, z_se1, z_se2, z_se3, z_e5, z_nb4, z_nb5, z_nb6, z_a5, z_a6, z_a7, z_nb0, z_nb1, z_nb2, z_nb3, z_a1, z_a2, z_a3, z_a4, z_c, z_u2, z_u1, z_un, z_ev0, z_ev1, z_tup, z_lst, z_dt0, z_dt1, z_d1, z_isB, z_bt, z_bf, z_st, z_sf, z_and, z_dor, z_ite, z_not, z_no, z_chain, z_isi, z_iw1, z_iw2, z_iw3, z_isN, z_notN, z_nw1, z_nw2, z_mul, z_mw1, z_mw2, z_sl, z_po0, z_po1, z_io, z_oa, z_so1, z_so2, z_up, z_su1, z_su2, z_mut, z_mo, z_mt, z_meth, z_seq, z_next, z_asg, z_if, z_ret, z_rt, z_m1, z_m2, z_m3, z_m5, z_m6, z_m7, z_sm3, z_sm4, z_f5, z_f6, z_f7, z_k5, z_r4, z_r5, z_r6, z_m4, z_sm1, z_sm2, z_drop, z_raise, z_has, z_ho, z_seti, z_sI, z_fn, z_ent, z_f1, z_f2, z_f3, z_f4, z_k0, z_k1, z_k2, z_k3, z_k4, z_call, z_r1, z_r2, z_r3, z_callB, z_for, z_bls1, z_outR, z_fg0, z_fg1, z_lp1, z_lp2, z_lp3, z_it1, z_it2, z_rn0, z_asgT, z_tt, z_ta0, z_ta1, z_par, z_two, z_setW, List.getElem?_cons_zero, List.getElem?_cons_succ, List.set_cons_zero, List.set_cons_succ, List.map_cons, List.map_nil, List.length_cons, List.length_nil, List.cons_append, List.nil_append, List.replicate, Nat.zero_add, Nat.reduceAdd, Nat.reduceSub, if_true, List.append_nil, q_addI, q_sub, q_neg, q_cmp, q_ixL, q_ixT, q_lenL, q_lenT, q_int, q_max, q_min, q_tupL, q_lstT, q_isB, q_slL, q_slT, q_eqS, q_neS, q_tn, q_at0, q_rev, q_isNB, q_tupT, q_lstL, cc, at_, q_neI, cb, two, Bool.not_true, Bool.not_false, r]
      | true =>
        rw [q] at cb
        cases a with
        | int i =>
          have q2 : (decide (0 ≤ i) && decide (i < (cs.length : Int))) = true := q
          have q3 := q2
          rw [Bool.and_eq_true, decide_eq_true_eq, decide_eq_true_eq] at q3
          obtain ⟨ss, e1, e2⟩ := in_col hc q3.1 q3.2 hb
          have r : stepB cs (.tuple [.int i, b]) = inCol cs i b := by
            show ((decide (0 ≤ i) && decide (i < (cs.length : Int))) && inCol cs i b) = _
            rw [q2, Bool.true_and]
          simp only [z_ob, z_om, z_b1, z_b2, z_be1, z_be2, z_bs1, z_bs2, z_bs3, z_bl1, z_bl2, z_bc1, z_bc2, z_cr1, z_cr2, z_or, z_os, z_oo, z_ol, z_oB, z_name, z_sn1, z_sn2, z_sn3, z_sn5, z_sn6, z_sn7, z_sn8, z_sn4, z_rs1, z_rs2, z_rs3, z_rs4, z_sr1, z_sr2, z_sr3, z_rss0, z_rss1, z_es, z_es1, z_es2, z_est, z_e1, z_e2, z_e4, z_se1, z_se2, z_se3, z_e5, z_nb4, z_nb5, z_nb6, z_a5, z_a6, z_a7, z_nb0, z_nb1, z_nb2, z_nb3, z_a1, z_a2, z_a3, z_a4, z_c, z_u2, z_u1, z_un, z_ev0, z_ev1, z_tup, z_lst, z_dt0, z_dt1, z_d1, z_isB, z_bt, z_bf, z_st, z_sf, z_and, z_dor, z_ite, z_not, z_no, z_chain, z_isi, z_iw1, z_iw2, z_iw3, z_isN, z_notN, z_nw1, z_nw2, z_mul, z_mw1, z_mw2, z_sl, z_po0, z_po1, z_io, z_oa, z_so1, z_so2, z_up, z_su1, z_su2, z_mut, z_mo, z_mt, z_meth, z_seq, z_next, z_asg, z_if, z_ret, z_rt, z_m1, z_m2, z_m3, z_m5, z_m6, z_m7, z_sm3, z_sm4, z_f5, z_f6, z_f7, z_k5, z_r4, z_r5, z_r6, z_m4, z_sm1, z_sm2, z_drop, z_raise, z_has, z_ho, z_seti, z_sI, z_fn, z_ent, z_f1, z_f2, z_f3, z_f4, z_k0, z_k1, z_k2, z_k3, z_k4, z_call, z_r1, z_r2, z_r3, z_callB, z_for, z_bls1, z_outR, z_fg0, z_fg1, z_lp1, z_lp2, z_lp3, z_it1, z_it2, z_rn0, z_asgT, z_tt, z_ta0, z_ta1, z_par, z_two, z_setW, List.getElem?_cons_zero, List.getElem?_cons_succ, List.set_cons_zero, List.set_cons_succ, List.map_cons, List.map_nil, List.length_cons, List.length_nil, List.cons_append, List.nil_append, List.replicate, Nat.zero_add, Nat.reduceAdd, Nat.reduceSub, if_true, List.append_nil, q_addI, q_sub, q_neg, q_cmp, q_ixL, q_ixT, q_lenL, q_lenT, q_int, q_max, q_min, q_tupL, q_lstT, q_isB, q_slL, q_slT, q_eqS, q_neS, q_tn, q_at0, q_rev, q_isNB, q_tupT, q_lstL, cc, at_, q_neI, cb, two, e1, e2, Bool.not_true, Bool.not_false, r]
        | _ => cases q
    | [], parts => simp only [z_ob, z_om, z_b1, z_b2, z_be1, z_be2, z_bs1, z_bs2, z_bs3, z_bl1, z_bl2, z_bc1, z_bc2, z_cr1, z_cr2, z_or, z_os, z_oo, z_ol, z_oB, z_name, z_sn1, z_sn2, z_sn3, z_sn5, z_sn6, z_sn7, z_sn8, z_sn4, z_rs1, z_rs2, z_rs3, z_rs4, z_sr1, z_sr2, z_sr3, z_rss0, z_rss1, z_es, z_es1, z_es2, z_est, z_e1, z_e2, z_e4, z_se1, z_se2, z_se3, z_e5, z_nb4, z_nb5, z_nb6, z_a5, z_a6, z_a7, z_nb0, z_nb1, z_nb2, z_nb3, z_a1, z_a2, z_a3, z_a4, z_c, z_u2, z_u1, z_un, z_ev0, z_ev1, z_tup, z_lst, z_dt0, z_dt1, z_d1, z_isB, z_bt, z_bf, z_st, z_sf, z_and, z_dor, z_ite, z_not, z_no, z_chain, z_isi, z_iw1, z_iw2, z_iw3, z_isN, z_notN, z_nw1, z_nw2, z_mul, z_mw1, z_mw2, z_sl, z_po0, z_po1, z_io, z_oa, z_so1, z_so2, z_up, z_su1, z_su2, z_mut, z_mo, z_mt, z_meth, z_seq, z_next, z_asg, z_if, z_ret, z_rt, z_m1, z_m2, z_m3, z_m5, z_m6, z_m7, z_sm3, z_sm4, z_f5, z_f6, z_f7, z_k5, z_r4, z_r5, z_r6, z_m4, z_sm1, z_sm2, z_drop, z_raise, z_has, z_ho, z_seti, z_sI, z_fn, z_ent, z_f1, z_f2, z_f3, z_f4, z_k0, z_k1, z_k2, z_k3, z_k4, z_call, z_r1, z_r2, z_r3, z_callB, z_for, z_bls1, z_outR, z_fg0, z_fg1, z_lp1, z_lp2, z_lp3, z_it1, z_it2, z_rn0, z_asgT, z_tt, z_ta0, z_ta1, z_par, z_two, z_setW, List.getElem?_cons_zero, List.getElem?_cons_succ, List.set_cons_zero, List.set_cons_succ, List.map_cons, List.map_nil, List.length_cons, List.length_nil, List.cons_append, List.nil_append, List.replicate, Nat.zero_add, Nat.reduceAdd, Nat.reduceSub, if_true, List.append_nil, q_addI, q_sub, q_neg, q_cmp, q_ixL, q_ixT, q_lenL, q_lenT, q_int, q_max, q_min, q_tupL, q_lstT, q_isB, q_slL, q_slT, q_eqS, q_neS, q_tn, q_at0, q_rev, q_isNB, q_tupT, q_lstL, cc, at_, q_neI, Bool.not_true, Bool.not_false, stepB]; rfl
    | [a], parts => simp only [z_ob, z_om, z_b1, z_b2, z_be1, z_be2, z_bs1, z_bs2, z_bs3, z_bl1, z_bl2, z_bc1, z_bc2, z_cr1, z_cr2, z_or, z_os, z_oo, z_ol, z_oB, z_name, z_sn1, z_sn2, z_sn3, z_sn5, z_sn6, z_sn7, z_sn8, z_sn4, z_rs1, z_rs2, z_rs3, z_rs4, z_sr1, z_sr2, z_sr3, z_rss0, z_rss1, z_es, z_es1, z_es2, z_est, z_e1, z_e2, z_e4, z_se1, z_se2, z_se3, z_e5, z_nb4, z_nb5, z_nb6, z_a5, z_a6, z_a7, z_nb0, z_nb1, z_nb2, z_nb3, z_a1, z_a2, z_a3, z_a4, z_c, z_u2, z_u1, z_un, z_ev0, z_ev1, z_tup, z_lst, z_dt0, z_dt1, z_d1, z_isB, z_bt, z_bf, z_st, z_sf, z_and, z_dor, z_ite, z_not, z_no, z_chain, z_isi, z_iw1, z_iw2, z_iw3, z_isN, z_notN, z_nw1, z_nw2, z_mul, z_mw1, z_mw2, z_sl, z_po0, z_po1, z_io, z_oa, z_so1, z_so2, z_up, z_su1, z_su2, z_mut, z_mo, z_mt, z_meth, z_seq, z_next, z_asg, z_if, z_ret, z_rt, z_m1, z_m2, z_m3, z_m5, z_m6, z_m7, z_sm3, z_sm4, z_f5, z_f6, z_f7, z_k5, z_r4, z_r5, z_r6, z_m4, z_sm1, z_sm2, z_drop, z_raise, z_has, z_ho, z_seti, z_sI, z_fn, z_ent, z_f1, z_f2, z_f3, z_f4, z_k0, z_k1, z_k2, z_k3, z_k4, z_call, z_r1, z_r2, z_r3, z_callB, z_for, z_bls1, z_outR, z_fg0, z_fg1, z_lp1, z_lp2, z_lp3, z_it1, z_it2, z_rn0, z_asgT, z_tt, z_ta0, z_ta1, z_par, z_two, z_setW, List.getElem?_cons_zero, List.getElem?_cons_succ, List.set_cons_zero, List.set_cons_succ, List.map_cons, List.map_nil, List.length_cons, List.length_nil, List.cons_append, List.nil_append, List.replicate, Nat.zero_add, Nat.reduceAdd, Nat.reduceSub, if_true, List.append_nil, q_addI, q_sub, q_neg, q_cmp, q_ixL, q_ixT, q_lenL, q_lenT, q_int, q_max, q_min, q_tupL, q_lstT, q_isB, q_slL, q_slT, q_eqS, q_neS, q_tn, q_at0, q_rev, q_isNB, q_tupT, q_lstL, cc, at_, q_neI, Bool.not_true, Bool.not_false, stepB]; rfl
    | a :: b :: c :: r, parts =>
      have ne : (!decide (((a :: b :: c :: r).length : Int) = 2)) = true := by
        rw [decide_eq_false (by simp only [List.length_cons]; omega)]; rfl
      have sb : stepB cs (.tuple (a :: b :: c :: r)) = false := by
        cases a <;> rfl
      generalize (a :: b :: c :: r) = ys at *
      simp only [z_ob, z_om, z_b1, z_b2, z_be1, z_be2, z_bs1, z_bs2, z_bs3, z_bl1, z_bl2, z_bc1, z_bc2, z_cr1, z_cr2, z_or, z_os, z_oo, z_ol, z_oB, z_name, z_sn1, z_sn2, z_sn3, z_sn5, z_sn6, z_sn7, z_sn8, z_sn4, z_rs1, z_rs2, z_rs3, z_rs4, z_sr1, z_sr2, z_sr3, z_rss0, z_rss1, z_es, z_es1, z_es2, z_est, z_e1, z_e2, z_e4, z_se1, z_se2, z_se3, z_e5, z_nb4, z_nb5, z_nb6, z_a5, z_a6, z_a7, z_nb0, z_nb1, z_nb2, z_nb3, z_a1, z_a2, z_a3, z_a4, z_c, z_u2, z_u1, z_un, z_ev0, z_ev1, z_tup, z_lst, z_dt0, z_dt1, z_d1, z_isB, z_bt, z_bf, z_st, z_sf, z_and, z_dor, z_ite, z_not, z_no, z_chain, z_isi, z_iw1, z_iw2, z_iw3, z_isN, z_notN, z_nw1, z_nw2, z_mul, z_mw1, z_mw2, z_sl, z_po0, z_po1, z_io, z_oa, z_so1, z_so2, z_up, z_su1, z_su2, z_mut, z_mo, z_mt, z_meth, z_seq, z_next, z_asg, z_if, z_ret, z_rt, z_m1, z_m2, z_m3, z_m5, z_m6, z_m7, z_sm3, z_sm4, z_f5, z_f6, z_f7, z_k5, z_r4, z_r5, z_r6, z_m4, z_sm1, z_sm2, z_drop, z_raise, z_has, z_ho, z_seti, z_sI, z_fn, z_ent, z_f1, z_f2, z_f3, z_f4, z_k0, z_k1, z_k2, z_k3, z_k4, z_call, z_r1, z_r2, z_r3, z_callB, z_for, z_bls1, z_outR, z_fg0, z_fg1, z_lp1, z_lp2, z_lp3, z_it1, z_it2, z_rn0, z_asgT, z_tt, z_ta0, z_ta1, z_par, z_two, z_setW, List.getElem?_cons_zero, List.getElem?_cons_succ, List.set_cons_zero, List.set_cons_succ, List.map_cons, List.map_nil, List.length_cons, List.length_nil, List.cons_append, List.nil_append, List.replicate, Nat.zero_add, Nat.reduceAdd, Nat.reduceSub, if_true, List.append_nil, q_addI, q_sub, q_neg, q_cmp, q_ixL, q_ixT, q_lenL, q_lenT, q_int, q_max, q_min, q_tupL, q_lstT, q_isB, q_slL, q_slT, q_eqS, q_neS, q_tn, q_at0, q_rev, q_isNB, q_tupT, q_lstL, cc, at_, q_neI, Bool.not_true, Bool.not_false, sb, ne]
  | none => simp only [z_ob, z_om, z_b1, z_b2, z_be1, z_be2, z_bs1, z_bs2, z_bs3, z_bl1, z_bl2, z_bc1, z_bc2, z_cr1, z_cr2, z_or, z_os, z_oo, z_ol, z_oB, z_name, z_sn1, z_sn2, z_sn3, z_sn5, z_sn6, z_sn7, z_sn8, z_sn4, z_rs1, z_rs2, z_rs3, z_rs4, z_sr1, z_sr2, z_sr3, z_rss0, z_rss1, z_es, z_es1, z_es2, z_est, z_e1, z_e2, z_e4, z_se1, z_se2, z_se3, z_e5, z_nb4, z_nb5, z_nb6, z_a5, z_a6, z_a7, z_nb0, z_nb1, z_nb2, z_nb3, z_a1, z_a2, z_a3, z_a4, z_c, z_u2, z_u1, z_un, z_ev0, z_ev1, z_tup, z_lst, z_dt0, z_dt1, z_d1, z_isB, z_bt, z_bf, z_st, z_sf, z_and, z_dor, z_ite, z_not, z_no, z_chain, z_isi, z_iw1, z_iw2, z_iw3, z_isN, z_notN, z_nw1, z_nw2, z_mul, z_mw1, z_mw2, z_sl, z_po0, z_po1, z_io, z_oa, z_so1, z_so2, z_up, z_su1, z_su2, z_mut, z_mo, z_mt, z_meth, z_seq, z_next, z_asg, z_if, z_ret, z_rt, z_m1, z_m2, z_m3, z_m5, z_m6, z_m7, z_sm3, z_sm4, z_f5, z_f6, z_f7, z_k5, z_r4, z_r5, z_r6, z_m4, z_sm1, z_sm2, z_drop, z_raise, z_has, z_ho, z_seti, z_sI, z_fn, z_ent, z_f1, z_f2, z_f3, z_f4, z_k0, z_k1, z_k2, z_k3, z_k4, z_call, z_r1, z_r2, z_r3, z_callB, z_for, z_bls1, z_outR, z_fg0, z_fg1, z_lp1, z_lp2, z_lp3, z_it1, z_it2, z_rn0, z_asgT, z_tt, z_ta0, z_ta1, z_par, z_two, z_setW, List.getElem?_cons_zero, List.getElem?_cons_succ, List.set_cons_zero, List.set_cons_succ, List.map_cons, List.map_nil, List.length_cons, List.length_nil, List.cons_append, List.nil_append, List.replicate, Nat.zero_add, Nat.reduceAdd, Nat.reduceSub, if_true, List.append_nil, q_addI, q_sub, q_neg, q_cmp, q_ixL, q_ixT, q_lenL, q_lenT, q_int, q_max, q_min, q_tupL, q_lstT, q_isB, q_slL, q_slT, q_eqS, q_neS, q_tn, q_at0, q_rev, q_isNB, q_tupT, q_lstL, cc, show aTuple PyData.none = some false from rfl, Bool.not_true, Bool.not_false, stepB]
  | bool b => simp only [z_ob, z_om, z_b1, z_b2, z_be1, z_be2, z_bs1, z_bs2, z_bs3, z_bl1, z_bl2, z_bc1, z_bc2, z_cr1, z_cr2, z_or, z_os, z_oo, z_ol, z_oB, z_name, z_sn1, z_sn2, z_sn3, z_sn5, z_sn6, z_sn7, z_sn8, z_sn4, z_rs1, z_rs2, z_rs3, z_rs4, z_sr1, z_sr2, z_sr3, z_rss0, z_rss1, z_es, z_es1, z_es2, z_est, z_e1, z_e2, z_e4, z_se1, z_se2, z_se3, z_e5, z_nb4, z_nb5, z_nb6, z_a5, z_a6, z_a7, z_nb0, z_nb1, z_nb2, z_nb3, z_a1, z_a2, z_a3, z_a4, z_c, z_u2, z_u1, z_un, z_ev0, z_ev1, z_tup, z_lst, z_dt0, z_dt1, z_d1, z_isB, z_bt, z_bf, z_st, z_sf, z_and, z_dor, z_ite, z_not, z_no, z_chain, z_isi, z_iw1, z_iw2, z_iw3, z_isN, z_notN, z_nw1, z_nw2, z_mul, z_mw1, z_mw2, z_sl, z_po0, z_po1, z_io, z_oa, z_so1, z_so2, z_up, z_su1, z_su2, z_mut, z_mo, z_mt, z_meth, z_seq, z_next, z_asg, z_if, z_ret, z_rt, z_m1, z_m2, z_m3, z_m5, z_m6, z_m7, z_sm3, z_sm4, z_f5, z_f6, z_f7, z_k5, z_r4, z_r5, z_r6, z_m4, z_sm1, z_sm2, z_drop, z_raise, z_has, z_ho, z_seti, z_sI, z_fn, z_ent, z_f1, z_f2, z_f3, z_f4, z_k0, z_k1, z_k2, z_k3, z_k4, z_call, z_r1, z_r2, z_r3, z_callB, z_for, z_bls1, z_outR, z_fg0, z_fg1, z_lp1, z_lp2, z_lp3, z_it1, z_it2, z_rn0, z_asgT, z_tt, z_ta0, z_ta1, z_par, z_two, z_setW, List.getElem?_cons_zero, List.getElem?_cons_succ, List.set_cons_zero, List.set_cons_succ, List.map_cons, List.map_nil, List.length_cons, List.length_nil, List.cons_append, List.nil_append, List.replicate, Nat.zero_add, Nat.reduceAdd, Nat.reduceSub, if_true, List.append_nil, q_addI, q_sub, q_neg, q_cmp, q_ixL, q_ixT, q_lenL, q_lenT, q_int, q_max, q_min, q_tupL, q_lstT, q_isB, q_slL, q_slT, q_eqS, q_neS, q_tn, q_at0, q_rev, q_isNB, q_tupT, q_lstL, cc, show aTuple (PyData.bool b) = some false from rfl, Bool.not_true, Bool.not_false, stepB]
  | int b => simp only [z_ob, z_om, z_b1, z_b2, z_be1, z_be2, z_bs1, z_bs2, z_bs3, z_bl1, z_bl2, z_bc1, z_bc2, z_cr1, z_cr2, z_or, z_os, z_oo, z_ol, z_oB, z_name, z_sn1, z_sn2, z_sn3, z_sn5, z_sn6, z_sn7, z_sn8, z_sn4, z_rs1, z_rs2, z_rs3, z_rs4, z_sr1, z_sr2, z_sr3, z_rss0, z_rss1, z_es, z_es1, z_es2, z_est, z_e1, z_e2, z_e4, z_se1, z_se2, z_se3, z_e5, z_nb4, z_nb5, z_nb6, z_a5, z_a6, z_a7, z_nb0, z_nb1, z_nb2, z_nb3, z_a1, z_a2, z_a3, z_a4, z_c, z_u2, z_u1, z_un, z_ev0, z_ev1, z_tup, z_lst, z_dt0, z_dt1, z_d1, z_isB, z_bt, z_bf, z_st, z_sf, z_and, z_dor, z_ite, z_not, z_no, z_chain, z_isi, z_iw1, z_iw2, z_iw3, z_isN, z_notN, z_nw1, z_nw2, z_mul, z_mw1, z_mw2, z_sl, z_po0, z_po1, z_io, z_oa, z_so1, z_so2, z_up, z_su1, z_su2, z_mut, z_mo, z_mt, z_meth, z_seq, z_next, z_asg, z_if, z_ret, z_rt, z_m1, z_m2, z_m3, z_m5, z_m6, z_m7, z_sm3, z_sm4, z_f5, z_f6, z_f7, z_k5, z_r4, z_r5, z_r6, z_m4, z_sm1, z_sm2, z_drop, z_raise, z_has, z_ho, z_seti, z_sI, z_fn, z_ent, z_f1, z_f2, z_f3, z_f4, z_k0, z_k1, z_k2, z_k3, z_k4, z_call, z_r1, z_r2, z_r3, z_callB, z_for, z_bls1, z_outR, z_fg0, z_fg1, z_lp1, z_lp2, z_lp3, z_it1, z_it2, z_rn0, z_asgT, z_tt, z_ta0, z_ta1, z_par, z_two, z_setW, List.getElem?_cons_zero, List.getElem?_cons_succ, List.set_cons_zero, List.set_cons_succ, List.map_cons, List.map_nil, List.length_cons, List.length_nil, List.cons_append, List.nil_append, List.replicate, Nat.zero_add, Nat.reduceAdd, Nat.reduceSub, if_true, List.append_nil, q_addI, q_sub, q_neg, q_cmp, q_ixL, q_ixT, q_lenL, q_lenT, q_int, q_max, q_min, q_tupL, q_lstT, q_isB, q_slL, q_slT, q_eqS, q_neS, q_tn, q_at0, q_rev, q_isNB, q_tupT, q_lstL, cc, show aTuple (PyData.int b) = some false from rfl, Bool.not_true, Bool.not_false, stepB]
  | str b => simp only [z_ob, z_om, z_b1, z_b2, z_be1, z_be2, z_bs1, z_bs2, z_bs3, z_bl1, z_bl2, z_bc1, z_bc2, z_cr1, z_cr2, z_or, z_os, z_oo, z_ol, z_oB, z_name, z_sn1, z_sn2, z_sn3, z_sn5, z_sn6, z_sn7, z_sn8, z_sn4, z_rs1, z_rs2, z_rs3, z_rs4, z_sr1, z_sr2, z_sr3, z_rss0, z_rss1, z_es, z_es1, z_es2, z_est, z_e1, z_e2, z_e4, z_se1, z_se2, z_se3, z_e5, z_nb4, z_nb5, z_nb6, z_a5, z_a6, z_a7, z_nb0, z_nb1, z_nb2, z_nb3, z_a1, z_a2, z_a3, z_a4, z_c, z_u2, z_u1, z_un, z_ev0, z_ev1, z_tup, z_lst, z_dt0, z_dt1, z_d1, z_isB, z_bt, z_bf, z_st, z_sf, z_and, z_dor, z_ite, z_not, z_no, z_chain, z_isi, z_iw1, z_iw2, z_iw3, z_isN, z_notN, z_nw1, z_nw2, z_mul, z_mw1, z_mw2, z_sl, z_po0, z_po1, z_io, z_oa, z_so1, z_so2, z_up, z_su1, z_su2, z_mut, z_mo, z_mt, z_meth, z_seq, z_next, z_asg, z_if, z_ret, z_rt, z_m1, z_m2, z_m3, z_m5, z_m6, z_m7, z_sm3, z_sm4, z_f5, z_f6, z_f7, z_k5, z_r4, z_r5, z_r6, z_m4, z_sm1, z_sm2, z_drop, z_raise, z_has, z_ho, z_seti, z_sI, z_fn, z_ent, z_f1, z_f2, z_f3, z_f4, z_k0, z_k1, z_k2, z_k3, z_k4, z_call, z_r1, z_r2, z_r3, z_callB, z_for, z_bls1, z_outR, z_fg0, z_fg1, z_lp1, z_lp2, z_lp3, z_it1, z_it2, z_rn0, z_asgT, z_tt, z_ta0, z_ta1, z_par, z_two, z_setW, List.getElem?_cons_zero, List.getElem?_cons_succ, List.set_cons_zero, List.set_cons_succ, List.map_cons, List.map_nil, List.length_cons, List.length_nil, List.cons_append, List.nil_append, List.replicate, Nat.zero_add, Nat.reduceAdd, Nat.reduceSub, if_true, List.append_nil, q_addI, q_sub, q_neg, q_cmp, q_ixL, q_ixT, q_lenL, q_lenT, q_int, q_max, q_min, q_tupL, q_lstT, q_isB, q_slL, q_slT, q_eqS, q_neS, q_tn, q_at0, q_rev, q_isNB, q_tupT, q_lstL, cc, show aTuple (PyData.str b) = some false from rfl, Bool.not_true, Bool.not_false, stepB]
  | list b => simp only [z_ob, z_om, z_b1, z_b2, z_be1, z_be2, z_bs1, z_bs2, z_bs3, z_bl1, z_bl2, z_bc1, z_bc2, z_cr1, z_cr2, z_or, z_os, z_oo, z_ol, z_oB, z_name, z_sn1, z_sn2, z_sn3, z_sn5, z_sn6, z_sn7, z_sn8, z_sn4, z_rs1, z_rs2, z_rs3, z_rs4, z_sr1, z_sr2, z_sr3, z_rss0, z_rss1, z_es, z_es1, z_es2, z_est, z_e1, z_e2, z_e4, z_se1, z_se2, z_se3, z_e5, z_nb4, z_nb5, z_nb6, z_a5, z_a6, z_a7, z_nb0, z_nb1, z_nb2, z_nb3, z_a1, z_a2, z_a3, z_a4, z_c, z_u2, z_u1, z_un, z_ev0, z_ev1, z_tup, z_lst, z_dt0, z_dt1, z_d1, z_isB, z_bt, z_bf, z_st, z_sf, z_and, z_dor, z_ite, z_not, z_no, z_chain, z_isi, z_iw1, z_iw2, z_iw3, z_isN, z_notN, z_nw1, z_nw2, z_mul, z_mw1, z_mw2, z_sl, z_po0, z_po1, z_io, z_oa, z_so1, z_so2, z_up, z_su1, z_su2, z_mut, z_mo, z_mt, z_meth, z_seq, z_next, z_asg, z_if, z_ret, z_rt, z_m1, z_m2, z_m3, z_m5, z_m6, z_m7, z_sm3, z_sm4, z_f5, z_f6, z_f7, z_k5, z_r4, z_r5, z_r6, z_m4, z_sm1, z_sm2, z_drop, z_raise, z_has, z_ho, z_seti, z_sI, z_fn, z_ent, z_f1, z_f2, z_f3, z_f4, z_k0, z_k1, z_k2, z_k3, z_k4, z_call, z_r1, z_r2, z_r3, z_callB, z_for, z_bls1, z_outR, z_fg0, z_fg1, z_lp1, z_lp2, z_lp3, z_it1, z_it2, z_rn0, z_asgT, z_tt, z_ta0, z_ta1, z_par, z_two, z_setW, List.getElem?_cons_zero, List.getElem?_cons_succ, List.set_cons_zero, List.set_cons_succ, List.map_cons, List.map_nil, List.length_cons, List.length_nil, List.cons_append, List.nil_append, List.replicate, Nat.zero_add, Nat.reduceAdd, Nat.reduceSub, if_true, List.append_nil, q_addI, q_sub, q_neg, q_cmp, q_ixL, q_ixT, q_lenL, q_lenT, q_int, q_max, q_min, q_tupL, q_lstT, q_isB, q_slL, q_slT, q_eqS, q_neS, q_tn, q_at0, q_rev, q_isNB, q_tupT, q_lstL, cc, show aTuple (PyData.list b) = some false from rfl, Bool.not_true, Bool.not_false, stepB]
/-! ### flat rules -/
def colD : PyData → PyData
  | .tuple (c :: _) => c
  | _ => .none
def colK : PyData → Leaf
  | .tuple (.int c :: _) => .num c
  | _ => .none
def flatB (cs : List PyData) : PyData → Bool
  | .list xs => xs.all (stepB cs) && decide ((kSet (xs.map colK)).length = xs.length)
  | _ => false
theorem step_shape {cs : List PyData} {x : PyData} (h : stepB cs x = true) : ∃ (c : Int) (o : PyData), x = .tuple [.int c, o] ∧ (0 ≤ c ∧ c < (cs.length : Int)) ∧ inCol cs c o = true := by
  unfold stepB at h
  split at h
  · rw [Bool.and_eq_true, Bool.and_eq_true, decide_eq_true_eq, decide_eq_true_eq] at h
    exact ⟨_, _, rfl, h.1, h.2⟩
  · cases h
theorem cols_leafs {cs : List PyData} : ∀ {xs : List PyData}, (∀ x ∈ xs, stepB cs x = true) → leafs (xs.map colD) = some (xs.map colK)
  | [], _ => rfl
  | x :: xs, h => by
    obtain ⟨c, o, rfl, _⟩ := step_shape (h x List.mem_cons_self)
    rw [List.map_cons, List.map_cons]
    show ((leafOf (.int c)).bind _) = _
    show ((leafs (xs.map colD)).bind _) = _
    rw [cols_leafs fun y hy => h y (List.mem_cons_of_mem _ hy)]
    rfl
theorem flat_is {cs : List PyData} (hc : Cols cs) (l : 1 ≤ cs.length ∧ cs.length ≤ 6) {x : PyData} (hx : Lite 60 x) (few : ∀ xs, x = .list xs → xs.length ≤ 1000) : fn_is_flat [.d (.list cs), .d x] = .ok (.d (.bool (flatB cs x))) [.d (.list cs), .d x] := by
  have cc := check_call hc l
  unfold fn_is_flat dn_is_flat
  cases x with
  | dict x => exact hx.ndict.elim
  | list xs =>
    have fw := few xs rfl
    have at_ : aList (.list xs) = some true := rfl
    have parts := Lite.lst hx
    have lc : dLc (dName 1) [2] (tgName 2) (dC (.bool true)) el_is_flat_1 [some (.d (.list cs)), some (.d (.list xs)), none] = .ok (.own (xs.map fun y => .bool (stepB cs y))) [some (.d (.list cs)), some (.d (.list xs)), none] := by
      refine dlc_pure (src := .list xs) rfl rfl rfl (by omega) fun x hx => ?_
      have cv := call_val (k := 2) rfl (step_is hc l ((parts x hx).mono (show 59 ≤ 60 by decide)))
      unfold el_is_flat_1
      simp only [z_ob, z_om, z_b1, z_b2, z_be1, z_be2, z_bs1, z_bs2, z_bs3, z_bl1, z_bl2, z_bc1, z_bc2, z_cr1, z_cr2, z_or, z_os, z_oo, z_ol, z_oB, z_name, z_sn1, z_sn2, z_sn3, z_sn5, z_sn6, z_sn7, z_sn8, z_sn4, z_rs1, z_rs2, z_rs3, z_rs4, z_sr1, z_sr2, z_sr3, z_rss0, z_rss1, z_es, z_es1, z_es2, z_est, z_e1, z_e2, z_e4, z_se1, z_se2, z_se3, z_e5, z_nb4, z_nb5, z_nb6, z_a5, z_a6, z_a7, z_nb0, z_nb1, z_nb2, z_nb3, z_a1, z_a2, z_a3, z_a4, z_c, z_u2, z_u1, z_un, z_ev0, z_ev1, z_tup, z_lst, z_dt0, z_dt1, z_d1, z_isB, z_bt, z_bf, z_st, z_sf, z_and, z_dor, z_ite, z_not, z_no, z_chain, z_isi, z_iw1, z_iw2, z_iw3, z_isN, z_notN, z_nw1, z_nw2, z_mul, z_mw1, z_mw2, z_sl, z_po0, z_po1, z_io, z_oa, z_so1, z_so2, z_up, z_su1, z_su2, z_mut, z_mo, z_mt, z_meth, z_seq, z_next, z_asg, z_if, z_ret, z_rt, z_m1, z_m2, z_m3, z_m5, z_m6, z_m7, z_sm3, z_sm4, z_f5, z_f6, z_f7, z_k5, z_r4, z_r5, z_r6, z_m4, z_sm1, z_sm2, z_drop, z_raise, z_has, z_ho, z_seti, z_sI, z_fn, z_ent, z_f1, z_f2, z_f3, z_f4, z_k0, z_k1, z_k2, z_k3, z_k4, z_call, z_r1, z_r2, z_r3, z_callB, z_for, z_bls1, z_outR, z_fg0, z_fg1, z_lp1, z_lp2, z_lp3, z_it1, z_it2, z_rn0, z_asgT, z_tt, z_ta0, z_ta1, z_par, z_two, z_setW, List.getElem?_cons_zero, List.getElem?_cons_succ, List.set_cons_zero, List.set_cons_succ, List.map_cons, List.map_nil, List.length_cons, List.length_nil, List.cons_append, List.nil_append, List.replicate, Nat.zero_add, Nat.reduceAdd, Nat.reduceSub, if_true, List.append_nil, q_addI, q_sub, q_neg, q_cmp, q_ixL, q_ixT, q_lenL, q_lenT, q_int, q_max, q_min, q_tupL, q_lstT, q_isB, q_slL, q_slT, q_eqS, q_neS, q_tn, q_at0, q_rev, q_isNB, q_tupT, q_lstL, cv]
    have oa : opAll [.list (xs.map fun y => .bool (stepB cs y))] = some (.d (.bool (xs.all (stepB cs)))) := by
      rw [q_all (bools_map (stepB cs) _), List.all_map]
      rfl
    cases q : xs.all (stepB cs) with
    | false =>
      rw [q] at oa
      have r : flatB cs (.list xs) = false := by
        show (xs.all (stepB cs) && _) = false
        rw [q]; rfl
      simp only [z_ob, z_om, z_b1, z_b2, z_be1, z_be2, z_bs1, z_bs2, z_bs3, z_bl1, z_bl2, z_bc1, z_bc2, z_cr1, z_cr2, z_or, z_os, z_oo, z_ol, z_oB, z_name, z_sn1, z_sn2, z_sn3, z_sn5, z_sn6, z_sn7, z_sn8, z_sn4, z_rs1, z_rs2, z_rs3, z_rs4, z_sr1, z_sr2, z_sr3, z_rss0, z_rss1, z_es, z_es1, z_es2, z_est, z_e1, z_e2, z_e4, z_se1, z_se2, z_se3, z_e5, z_nb4, z_nb5, z_nb6, z_a5, z_a6, z_a7, z_nb0, z_nb1, z_nb2, z_nb3, z_a1, z_a2, z_a3, z_a4, z_c, z_u2, z_u1, z_un, z_ev0, z_ev1, z_tup, z_lst, z_dt0, z_dt1, z_d1, z_isB, z_bt, z_bf, z_st, z_sf, z_and, z_dor, z_ite, z_not, z_no, z_chain, z_isi, z_iw1, z_iw2, z_iw3, z_isN, z_notN, z_nw1, z_nw2, z_mul, z_mw1, z_mw2, z_sl, z_po0, z_po1, z_io, z_oa, z_so1, z_so2, z_up, z_su1, z_su2, z_mut, z_mo, z_mt, z_meth, z_seq, z_next, z_asg, z_if, z_ret, z_rt, z_m1, z_m2, z_m3, z_m5, z_m6, z_m7, z_sm3, z_sm4, z_f5, z_f6, z_f7, z_k5, z_r4, z_r5, z_r6, z_m4, z_sm1, z_sm2, z_drop, z_raise, z_has, z_ho, z_seti, z_sI, z_fn, z_ent, z_f1, z_f2, z_f3, z_f4, z_k0, z_k1, z_k2, z_k3, z_k4, z_call, z_r1, z_r2, z_r3, z_callB, z_for, z_bls1, z_outR, z_fg0, z_fg1, z_lp1, z_lp2, z_lp3, z_it1, z_it2, z_rn0, z_asgT, z_tt, z_ta0, z_ta1, z_par, z_two, z_setW, List.getElem?_cons_zero, List.getElem?_cons_succ, List.set_cons_zero, List.set_cons_succ, List.map_cons, List.map_nil, List.length_cons, List.length_nil, List.cons_append, List.nil_append, List.replicate, Nat.zero_add, Nat.reduceAdd, Nat.reduceSub, if_true, List.append_nil, q_addI, q_sub, q_neg, q_cmp, q_ixL, q_ixT, q_lenL, q_lenT, q_int, q_max, q_min, q_tupL, q_lstT, q_isB, q_slL, q_slT, q_eqS, q_neS, q_tn, q_at0, q_rev, q_isNB, q_tupT, q_lstL, cc, at_, lc, oa, Bool.not_true, Bool.not_false, r]
    | true =>
      rw [q] at oa
      have all := List.all_eq_true.mp q
      have lc2 : dLc (dName 1) [2] (tgName 2) (dC (.bool true)) el_is_flat_2 [some (.d (.list cs)), some (.d (.list xs)), none] = .ok (.own (xs.map colD)) [some (.d (.list cs)), some (.d (.list xs)), none] := by
        refine dlc_pure (src := .list xs) rfl rfl rfl (by omega) fun x hx => ?_
        obtain ⟨c, o, rfl, _⟩ := step_shape (all x hx)
        unfold el_is_flat_2
        simp only [z_ob, z_om, z_b1, z_b2, z_be1, z_be2, z_bs1, z_bs2, z_bs3, z_bl1, z_bl2, z_bc1, z_bc2, z_cr1, z_cr2, z_or, z_os, z_oo, z_ol, z_oB, z_name, z_sn1, z_sn2, z_sn3, z_sn5, z_sn6, z_sn7, z_sn8, z_sn4, z_rs1, z_rs2, z_rs3, z_rs4, z_sr1, z_sr2, z_sr3, z_rss0, z_rss1, z_es, z_es1, z_es2, z_est, z_e1, z_e2, z_e4, z_se1, z_se2, z_se3, z_e5, z_nb4, z_nb5, z_nb6, z_a5, z_a6, z_a7, z_nb0, z_nb1, z_nb2, z_nb3, z_a1, z_a2, z_a3, z_a4, z_c, z_u2, z_u1, z_un, z_ev0, z_ev1, z_tup, z_lst, z_dt0, z_dt1, z_d1, z_isB, z_bt, z_bf, z_st, z_sf, z_and, z_dor, z_ite, z_not, z_no, z_chain, z_isi, z_iw1, z_iw2, z_iw3, z_isN, z_notN, z_nw1, z_nw2, z_mul, z_mw1, z_mw2, z_sl, z_po0, z_po1, z_io, z_oa, z_so1, z_so2, z_up, z_su1, z_su2, z_mut, z_mo, z_mt, z_meth, z_seq, z_next, z_asg, z_if, z_ret, z_rt, z_m1, z_m2, z_m3, z_m5, z_m6, z_m7, z_sm3, z_sm4, z_f5, z_f6, z_f7, z_k5, z_r4, z_r5, z_r6, z_m4, z_sm1, z_sm2, z_drop, z_raise, z_has, z_ho, z_seti, z_sI, z_fn, z_ent, z_f1, z_f2, z_f3, z_f4, z_k0, z_k1, z_k2, z_k3, z_k4, z_call, z_r1, z_r2, z_r3, z_callB, z_for, z_bls1, z_outR, z_fg0, z_fg1, z_lp1, z_lp2, z_lp3, z_it1, z_it2, z_rn0, z_asgT, z_tt, z_ta0, z_ta1, z_par, z_two, z_setW, List.getElem?_cons_zero, List.getElem?_cons_succ, List.set_cons_zero, List.set_cons_succ, List.map_cons, List.map_nil, List.length_cons, List.length_nil, List.cons_append, List.nil_append, List.replicate, Nat.zero_add, Nat.reduceAdd, Nat.reduceSub, if_true, List.append_nil, q_addI, q_sub, q_neg, q_cmp, q_ixL, q_ixT, q_lenL, q_lenT, q_int, q_max, q_min, q_tupL, q_lstT, q_isB, q_slL, q_slT, q_eqS, q_neS, q_tn, q_at0, q_rev, q_isNB, q_tupT, q_lstL]
        rfl
      have lk := q_lenK (cols_leafs all) (by rw [List.length_map]; omega)
      have r : flatB cs (.list xs) = decide ((kSet (xs.map colK)).length = xs.length) := by
        show (xs.all (stepB cs) && _) = _
        rw [q, Bool.true_and]
      have dd : decide ((((kSet (xs.map colK)).length : Nat) : Int) = ((xs.length : Nat) : Int)) = decide ((kSet (xs.map colK)).length = xs.length) := decide_eq_decide.mpr ⟨fun z => by omega, fun z => by omega⟩
      simp only [z_ob, z_om, z_b1, z_b2, z_be1, z_be2, z_bs1, z_bs2, z_bs3, z_bl1, z_bl2, z_bc1, z_bc2, z_cr1, z_cr2, z_or, z_os, z_oo, z_ol, z_oB, z_name, z_sn1, z_sn2, z_sn3, z_sn5, z_sn6, z_sn7, z_sn8, z_sn4, z_rs1, z_rs2, z_rs3, z_rs4, z_sr1, z_sr2, z_sr3, z_rss0, z_rss1, z_es, z_es1, z_es2, z_est, z_e1, z_e2, z_e4, z_se1, z_se2, z_se3, z_e5, z_nb4, z_nb5, z_nb6, z_a5, z_a6, z_a7, z_nb0, z_nb1, z_nb2, z_nb3, z_a1, z_a2, z_a3, z_a4, z_c, z_u2, z_u1, z_un, z_ev0, z_ev1, z_tup, z_lst, z_dt0, z_dt1, z_d1, z_isB, z_bt, z_bf, z_st, z_sf, z_and, z_dor, z_ite, z_not, z_no, z_chain, z_isi, z_iw1, z_iw2, z_iw3, z_isN, z_notN, z_nw1, z_nw2, z_mul, z_mw1, z_mw2, z_sl, z_po0, z_po1, z_io, z_oa, z_so1, z_so2, z_up, z_su1, z_su2, z_mut, z_mo, z_mt, z_meth, z_seq, z_next, z_asg, z_if, z_ret, z_rt, z_m1, z_m2, z_m3, z_m5, z_m6, z_m7, z_sm3, z_sm4, z_f5, z_f6, z_f7, z_k5, z_r4, z_r5, z_r6, z_m4, z_sm1, z_sm2, z_drop, z_raise, z_has, z_ho, z_seti, z_sI, z_fn, z_ent, z_f1, z_f2, z_f3, z_f4, z_k0, z_k1, z_k2, z_k3, z_k4, z_call, z_r1, z_r2, z_r3, z_callB, z_for, z_bls1, z_outR, z_fg0, z_fg1, z_lp1, z_lp2, z_lp3, z_it1, z_it2, z_rn0, z_asgT, z_tt, z_ta0, z_ta1, z_par, z_two, z_setW, List.getElem?_cons_zero, List.getElem?_cons_succ, List.set_cons_zero, List.set_cons_succ, List.map_cons, List.map_nil, List.length_cons, List.length_nil, List.cons_append, List.nil_append, List.replicate, Nat.zero_add, Nat.reduceAdd, Nat.reduceSub, if_true, List.append_nil, q_addI, q_sub, q_neg, q_cmp, q_ixL, q_ixT, q_lenL, q_lenT, q_int, q_max, q_min, q_tupL, q_lstT, q_isB, q_slL, q_slT, q_eqS, q_neS, q_tn, q_at0, q_rev, q_isNB, q_tupT, q_lstL, cc, at_, lc, oa, lc2, lk, q_eqI, dd, Bool.not_true, Bool.not_false, r]
  | none => simp only [z_ob, z_om, z_b1, z_b2, z_be1, z_be2, z_bs1, z_bs2, z_bs3, z_bl1, z_bl2, z_bc1, z_bc2, z_cr1, z_cr2, z_or, z_os, z_oo, z_ol, z_oB, z_name, z_sn1, z_sn2, z_sn3, z_sn5, z_sn6, z_sn7, z_sn8, z_sn4, z_rs1, z_rs2, z_rs3, z_rs4, z_sr1, z_sr2, z_sr3, z_rss0, z_rss1, z_es, z_es1, z_es2, z_est, z_e1, z_e2, z_e4, z_se1, z_se2, z_se3, z_e5, z_nb4, z_nb5, z_nb6, z_a5, z_a6, z_a7, z_nb0, z_nb1, z_nb2, z_nb3, z_a1, z_a2, z_a3, z_a4, z_c, z_u2, z_u1, z_un, z_ev0, z_ev1, z_tup, z_lst, z_dt0, z_dt1, z_d1, z_isB, z_bt, z_bf, z_st, z_sf, z_and, z_dor, z_ite, z_not, z_no, z_chain, z_isi, z_iw1, z_iw2, z_iw3, z_isN, z_notN, z_nw1, z_nw2, z_mul, z_mw1, z_mw2, z_sl, z_po0, z_po1, z_io, z_oa, z_so1, z_so2, z_up, z_su1, z_su2, z_mut, z_mo, z_mt, z_meth, z_seq, z_next, z_asg, z_if, z_ret, z_rt, z_m1, z_m2, z_m3, z_m5, z_m6, z_m7, z_sm3, z_sm4, z_f5, z_f6, z_f7, z_k5, z_r4, z_r5, z_r6, z_m4, z_sm1, z_sm2, z_drop, z_raise, z_has, z_ho, z_seti, z_sI, z_fn, z_ent, z_f1, z_f2, z_f3, z_f4, z_k0, z_k1, z_k2, z_k3, z_k4, z_call, z_r1, z_r2, z_r3, z_callB, z_for, z_bls1, z_outR, z_fg0, z_fg1, z_lp1, z_lp2, z_lp3, z_it1, z_it2, z_rn0, z_asgT, z_tt, z_ta0, z_ta1, z_par, z_two, z_setW, List.getElem?_cons_zero, List.getElem?_cons_succ, List.set_cons_zero, List.set_cons_succ, List.map_cons, List.map_nil, List.length_cons, List.length_nil, List.cons_append, List.nil_append, List.replicate, Nat.zero_add, Nat.reduceAdd, Nat.reduceSub, if_true, List.append_nil, q_addI, q_sub, q_neg, q_cmp, q_ixL, q_ixT, q_lenL, q_lenT, q_int, q_max, q_min, q_tupL, q_lstT, q_isB, q_slL, q_slT, q_eqS, q_neS, q_tn, q_at0, q_rev, q_isNB, q_tupT, q_lstL, cc, show aList PyData.none = some false from rfl, Bool.not_true, Bool.not_false, flatB]
  | bool b => simp only [z_ob, z_om, z_b1, z_b2, z_be1, z_be2, z_bs1, z_bs2, z_bs3, z_bl1, z_bl2, z_bc1, z_bc2, z_cr1, z_cr2, z_or, z_os, z_oo, z_ol, z_oB, z_name, z_sn1, z_sn2, z_sn3, z_sn5, z_sn6, z_sn7, z_sn8, z_sn4, z_rs1, z_rs2, z_rs3, z_rs4, z_sr1, z_sr2, z_sr3, z_rss0, z_rss1, z_es, z_es1, z_es2, z_est, z_e1, z_e2, z_e4, z_se1, z_se2, z_se3, z_e5, z_nb4, z_nb5, z_nb6, z_a5, z_a6, z_a7, z_nb0, z_nb1, z_nb2, z_nb3, z_a1, z_a2, z_a3, z_a4, z_c, z_u2, z_u1, z_un, z_ev0, z_ev1, z_tup, z_lst, z_dt0, z_dt1, z_d1, z_isB, z_bt, z_bf, z_st, z_sf, z_and, z_dor, z_ite, z_not, z_no, z_chain, z_isi, z_iw1, z_iw2, z_iw3, z_isN, z_notN, z_nw1, z_nw2, z_mul, z_mw1, z_mw2, z_sl, z_po0, z_po1, z_io, z_oa, z_so1, z_so2, z_up, z_su1, z_su2, z_mut, z_mo, z_mt, z_meth, z_seq, z_next, z_asg, z_if, z_ret, z_rt, z_m1, z_m2, z_m3, z_m5, z_m6, z_m7, z_sm3, z_sm4, z_f5, z_f6, z_f7, z_k5, z_r4, z_r5, z_r6, z_m4, z_sm1, z_sm2, z_drop, z_raise, z_has, z_ho, z_seti, z_sI, z_fn, z_ent, z_f1, z_f2, z_f3, z_f4, z_k0, z_k1, z_k2, z_k3, z_k4, z_call, z_r1, z_r2, z_r3, z_callB, z_for, z_bls1, z_outR, z_fg0, z_fg1, z_lp1, z_lp2, z_lp3, z_it1, z_it2, z_rn0, z_asgT, z_tt, z_ta0, z_ta1, z_par, z_two, z_setW, List.getElem?_cons_zero, List.getElem?_cons_succ, List.set_cons_zero, List.set_cons_succ, List.map_cons, List.map_nil, List.length_cons, List.length_nil, List.cons_append, List.nil_append, List.replicate, Nat.zero_add, Nat.reduceAdd, Nat.reduceSub, if_true, List.append_nil, q_addI, q_sub, q_neg, q_cmp, q_ixL, q_ixT, q_lenL, q_lenT, q_int, q_max, q_min, q_tupL, q_lstT, q_isB, q_slL, q_slT, q_eqS, q_neS, q_tn, q_at0, q_rev, q_isNB, q_tupT, q_lstL, cc, show aList (PyData.bool b) = some false from rfl, Bool.not_true, Bool.not_false, flatB]
  | int b => simp only [z_ob, z_om, z_b1, z_b2, z_be1, z_be2, z_bs1, z_bs2, z_bs3, z_bl1, z_bl2, z_bc1, z_bc2, z_cr1, z_cr2, z_or, z_os, z_oo, z_ol, z_oB, z_name, z_sn1, z_sn2, z_sn3, z_sn5, z_sn6, z_sn7, z_sn8, z_sn4, z_rs1, z_rs2, z_rs3, z_rs4, z_sr1, z_sr2, z_sr3, z_rss0, z_rss1, z_es, z_es1, z_es2, z_est, z_e1, z_e2, z_e4, z_se1, z_se2, z_se3, z_e5, z_nb4, z_nb5, z_nb6, z_a5, z_a6, z_a7, z_nb0, z_nb1, z_nb2, z_nb3, z_a1, z_a2, z_a3, z_a4, z_c, z_u2, z_u1, z_un, z_ev0, z_ev1, z_tup, z_lst, z_dt0, z_dt1, z_d1, z_isB, z_bt, z_bf, z_st, z_sf, z_and, z_dor, z_ite, z_not, z_no, z_chain, z_isi, z_iw1, z_iw2, z_iw3, z_isN, z_notN, z_nw1, z_nw2, z_mul, z_mw1, z_mw2, z_sl, z_po0, z_po1, z_io, z_oa, z_so1, z_so2, z_up, z_su1, z_su2, z_mut, z_mo, z_mt, z_meth, z_seq, z_next, z_asg, z_if, z_ret, z_rt, z_m1, z_m2, z_m3, z_m5, z_m6, z_m7, z_sm3, z_sm4, z_f5, z_f6, z_f7, z_k5, z_r4, z_r5, z_r6, z_m4, z_sm1, z_sm2, z_drop, z_raise, z_has, z_ho, z_seti, z_sI, z_fn, z_ent, z_f1, z_f2, z_f3, z_f4, z_k0, z_k1, z_k2, z_k3, z_k4, z_call, z_r1, z_r2, z_r3, z_callB, z_for, z_bls1, z_outR, z_fg0, z_fg1, z_lp1, z_lp2, z_lp3, z_it1, z_it2, z_rn0, z_asgT, z_tt, z_ta0, z_ta1, z_par, z_two, z_setW, List.getElem?_cons_zero, List.getElem?_cons_succ, List.set_cons_zero, List.set_cons_succ, List.map_cons, List.map_nil, List.length_cons, List.length_nil, List.cons_append, List.nil_append, List.replicate, Nat.zero_add, Nat.reduceAdd, Nat.reduceSub, if_true, List.append_nil, q_addI, q_sub, q_neg, q_cmp, q_ixL, q_ixT, q_lenL, q_lenT, q_int, q_max, q_min, q_tupL, q_lstT, q_isB, q_slL, q_slT, q_eqS, q_neS, q_tn, q_at0, q_rev, q_isNB, q_tupT, q_lstL, cc, show aList (PyData.int b) = some false from rfl, Bool.not_true, Bool.not_false, flatB]
  | str b => simp only [z_ob, z_om, z_b1, z_b2, z_be1, z_be2, z_bs1, z_bs2, z_bs3, z_bl1, z_bl2, z_bc1, z_bc2, z_cr1, z_cr2, z_or, z_os, z_oo, z_ol, z_oB, z_name, z_sn1, z_sn2, z_sn3, z_sn5, z_sn6, z_sn7, z_sn8, z_sn4, z_rs1, z_rs2, z_rs3, z_rs4, z_sr1, z_sr2, z_sr3, z_rss0, z_rss1, z_es, z_es1, z_es2, z_est, z_e1, z_e2, z_e4, z_se1, z_se2, z_se3, z_e5, z_nb4, z_nb5, z_nb6, z_a5, z_a6, z_a7, z_nb0, z_nb1, z_nb2, z_nb3, z_a1, z_a2, z_a3, z_a4, z_c, z_u2, z_u1, z_un, z_ev0, z_ev1, z_tup, z_lst, z_dt0, z_dt1, z_d1, z_isB, z_bt, z_bf, z_st, z_sf, z_and, z_dor, z_ite, z_not, z_no, z_chain, z_isi, z_iw1, z_iw2, z_iw3, z_isN, z_notN, z_nw1, z_nw2, z_mul, z_mw1, z_mw2, z_sl, z_po0, z_po1, z_io, z_oa, z_so1, z_so2, z_up, z_su1, z_su2, z_mut, z_mo, z_mt, z_meth, z_seq, z_next, z_asg, z_if, z_ret, z_rt, z_m1, z_m2, z_m3, z_m5, z_m6, z_m7, z_sm3, z_sm4, z_f5, z_f6, z_f7, z_k5, z_r4, z_r5, z_r6, z_m4, z_sm1, z_sm2, z_drop, z_raise, z_has, z_ho, z_seti, z_sI, z_fn, z_ent, z_f1, z_f2, z_f3, z_f4, z_k0, z_k1, z_k2, z_k3, z_k4, z_call, z_r1, z_r2, z_r3, z_callB, z_for, z_bls1, z_outR, z_fg0, z_fg1, z_lp1, z_lp2, z_lp3, z_it1, z_it2, z_rn0, z_asgT, z_tt, z_ta0, z_ta1, z_par, z_two, z_setW, List.getElem?_cons_zero, List.getElem?_cons_succ, List.set_cons_zero, List.set_cons_succ, List.map_cons, List.map_nil, List.length_cons, List.length_nil, List.cons_append, List.nil_append, List.replicate, Nat.zero_add, Nat.reduceAdd, Nat.reduceSub, if_true, List.append_nil, q_addI, q_sub, q_neg, q_cmp, q_ixL, q_ixT, q_lenL, q_lenT, q_int, q_max, q_min, q_tupL, q_lstT, q_isB, q_slL, q_slT, q_eqS, q_neS, q_tn, q_at0, q_rev, q_isNB, q_tupT, q_lstL, cc, show aList (PyData.str b) = some false from rfl, Bool.not_true, Bool.not_false, flatB]
  | tuple b => simp only [z_ob, z_om, z_b1, z_b2, z_be1, z_be2, z_bs1, z_bs2, z_bs3, z_bl1, z_bl2, z_bc1, z_bc2, z_cr1, z_cr2, z_or, z_os, z_oo, z_ol, z_oB, z_name, z_sn1, z_sn2, z_sn3, z_sn5, z_sn6, z_sn7, z_sn8, z_sn4, z_rs1, z_rs2, z_rs3, z_rs4, z_sr1, z_sr2, z_sr3, z_rss0, z_rss1, z_es, z_es1, z_es2, z_est, z_e1, z_e2, z_e4, z_se1, z_se2, z_se3, z_e5, z_nb4, z_nb5, z_nb6, z_a5, z_a6, z_a7, z_nb0, z_nb1, z_nb2, z_nb3, z_a1, z_a2, z_a3, z_a4, z_c, z_u2, z_u1, z_un, z_ev0, z_ev1, z_tup, z_lst, z_dt0, z_dt1, z_d1, z_isB, z_bt, z_bf, z_st, z_sf, z_and, z_dor, z_ite, z_not, z_no, z_chain, z_isi, z_iw1, z_iw2, z_iw3, z_isN, z_notN, z_nw1, z_nw2, z_mul, z_mw1, z_mw2, z_sl, z_po0, z_po1, z_io, z_oa, z_so1, z_so2, z_up, z_su1, z_su2, z_mut, z_mo, z_mt, z_meth, z_seq, z_next, z_asg, z_if, z_ret, z_rt, z_m1, z_m2, z_m3, z_m5, z_m6, z_m7, z_sm3, z_sm4, z_f5, z_f6, z_f7, z_k5, z_r4, z_r5, z_r6, z_m4, z_sm1, z_sm2, z_drop, z_raise, z_has, z_ho, z_seti, z_sI, z_fn, z_ent, z_f1, z_f2, z_f3, z_f4, z_k0, z_k1, z_k2, z_k3, z_k4, z_call, z_r1, z_r2, z_r3, z_callB, z_for, z_bls1, z_outR, z_fg0, z_fg1, z_lp1, z_lp2, z_lp3, z_it1, z_it2, z_rn0, z_asgT, z_tt, z_ta0, z_ta1, z_par, z_two, z_setW, List.getElem?_cons_zero, List.getElem?_cons_succ, List.set_cons_zero, List.set_cons_succ, List.map_cons, List.map_nil, List.length_cons, List.length_nil, List.cons_append, List.nil_append, List.replicate, Nat.zero_add, Nat.reduceAdd, Nat.reduceSub, if_true, List.append_nil, q_addI, q_sub, q_neg, q_cmp, q_ixL, q_ixT, q_lenL, q_lenT, q_int, q_max, q_min, q_tupL, q_lstT, q_isB, q_slL, q_slT, q_eqS, q_neS, q_tn, q_at0, q_rev, q_isNB, q_tupT, q_lstL, cc, show aList (PyData.tuple b) = some false from rfl, Bool.not_true, Bool.not_false, flatB]
theorem flat_err {s x : PyData} (h : BadS s) : fn_is_flat [.d s, .d x] = .err "NoSchema" [.d s, .d x] := by
  have cc := call_err (k := 1) rfl (check_bad h)
  unfold fn_is_flat dn_is_flat
  simp only [z_ob, z_om, z_b1, z_b2, z_be1, z_be2, z_bs1, z_bs2, z_bs3, z_bl1, z_bl2, z_bc1, z_bc2, z_cr1, z_cr2, z_or, z_os, z_oo, z_ol, z_oB, z_name, z_sn1, z_sn2, z_sn3, z_sn5, z_sn6, z_sn7, z_sn8, z_sn4, z_rs1, z_rs2, z_rs3, z_rs4, z_sr1, z_sr2, z_sr3, z_rss0, z_rss1, z_es, z_es1, z_es2, z_est, z_e1, z_e2, z_e4, z_se1, z_se2, z_se3, z_e5, z_nb4, z_nb5, z_nb6, z_a5, z_a6, z_a7, z_nb0, z_nb1, z_nb2, z_nb3, z_a1, z_a2, z_a3, z_a4, z_c, z_u2, z_u1, z_un, z_ev0, z_ev1, z_tup, z_lst, z_dt0, z_dt1, z_d1, z_isB, z_bt, z_bf, z_st, z_sf, z_and, z_dor, z_ite, z_not, z_no, z_chain, z_isi, z_iw1, z_iw2, z_iw3, z_isN, z_notN, z_nw1, z_nw2, z_mul, z_mw1, z_mw2, z_sl, z_po0, z_po1, z_io, z_oa, z_so1, z_so2, z_up, z_su1, z_su2, z_mut, z_mo, z_mt, z_meth, z_seq, z_next, z_asg, z_if, z_ret, z_rt, z_m1, z_m2, z_m3, z_m5, z_m6, z_m7, z_sm3, z_sm4, z_f5, z_f6, z_f7, z_k5, z_r4, z_r5, z_r6, z_m4, z_sm1, z_sm2, z_drop, z_raise, z_has, z_ho, z_seti, z_sI, z_fn, z_ent, z_f1, z_f2, z_f3, z_f4, z_k0, z_k1, z_k2, z_k3, z_k4, z_call, z_r1, z_r2, z_r3, z_callB, z_for, z_bls1, z_outR, z_fg0, z_fg1, z_lp1, z_lp2, z_lp3, z_it1, z_it2, z_rn0, z_asgT, z_tt, z_ta0, z_ta1, z_par, z_two, z_setW, List.getElem?_cons_zero, List.getElem?_cons_succ, List.set_cons_zero, List.set_cons_succ, List.map_cons, List.map_nil, List.length_cons, List.length_nil, List.cons_append, List.nil_append, List.replicate, Nat.zero_add, Nat.reduceAdd, Nat.reduceSub, if_true, List.append_nil, q_addI, q_sub, q_neg, q_cmp, q_ixL, q_ixT, q_lenL, q_lenT, q_int, q_max, q_min, q_tupL, q_lstT, q_isB, q_slL, q_slT, q_eqS, q_neS, q_tn, q_at0, q_rev, q_isNB, q_tupT, q_lstL, cc]
/-! ### drawn ones are right -/
theorem eqv_str (s t : Str) : PyData.eqv (.str s) (.str t) = decide (s = t) := by
  by_cases h : s = t
  · subst h
    rw [eqv_same, decide_eq_true rfl]
  · rw [decide_eq_false h]
    have : ¬ PyData.eqv (.str s) (.str t) = true := fun z => h (by simpa [PyData.eqv] using z)
    simpa using this
theorem step_good {cs : List PyData} {p : Nat × Str} (h : StepS cs p) : stepB cs (sD p) = true := by
  obtain ⟨ss, ⟨e, _, _⟩, m⟩ := h.at_
  have lt := h.lt
  show ((decide (0 ≤ (p.1 : Int)) && decide ((p.1 : Int) < (cs.length : Int))) && inCol cs (p.1 : Int) (.str p.2)) = true
  rw [decide_eq_true (by omega), decide_eq_true (by omega)]
  unfold inCol
  rw [q_at e]
  show (ss.map PyData.str).any _ = true
  exact List.any_eq_true.mpr ⟨.str p.2, List.mem_map.mpr ⟨p.2, m, rfl⟩, by rw [eqv_str]; exact decide_eq_true rfl⟩
theorem flat_good {cs : List PyData} {fs : List (Nat × Str)} (h : FlatS cs fs) : flatB cs (.list (fD fs)) = true := by
  show ((fD fs).all (stepB cs) && decide ((kSet ((fD fs).map colK)).length = (fD fs).length)) = true
  have a : (fD fs).all (stepB cs) = true := List.all_eq_true.mpr fun x hx => by
    obtain ⟨p, hp, rfl⟩ := List.mem_map.mp hx
    exact step_good (h.st p hp)
  have e : (fD fs).map colK = (fs.map (·.1)).map fun c : Nat => Leaf.num (c : Int) := by
    unfold fD
    rw [List.map_map, List.map_map]
    rfl
  have nd : ((fs.map (·.1)).map fun c : Nat => Leaf.num (c : Int)).Nodup := by
    refine List.Pairwise.map _ (fun a b hab z => hab ?_) h.nd
    have z : ((a : Nat) : Int) = ((b : Nat) : Int) := by injection z
    omega
  have k := kSet_full.mpr nd
  rw [a, e, Bool.true_and, k]
  refine decide_eq_true ?_
  unfold fD
  rw [List.length_map, List.length_map, List.length_map]
theorem step_nice {cs : List PyData} (l6 : cs.length ≤ 6) {p : Nat × Str} (h : StepS cs p) : Nice 1 21 (sD p) := by
  have lt := h.lt
  exact (nice_pair (small_nice p.1 (by omega)) (ord_nice p.2 (step_ord h)))
theorem flat_nice {cs : List PyData} (l6 : cs.length ≤ 6) {fs : List (Nat × Str)} (h : FlatS cs fs) : Nice 2 141 (.list (fD fs)) := nice_list (n := 6) (fun x hx => by
  obtain ⟨p, hp, rfl⟩ := List.mem_map.mp hx
  exact step_nice l6 (h.st p hp)) (by rw [List.length_map]; exact h.few)
/-- the first order of a column -/
theorem col_first {c : PyData} (h : GoodCol c) : ∃ ss : List Str, c = .tuple (ss.map PyData.str) ∧ (∃ s ∈ ords, atI (ss.map PyData.str) 0 = some (.str s)) ∧ ∃ s ∈ ords, atI (ss.map PyData.str) (-1) = some (.str s) := by
  obtain ⟨ss, rfl, hs, ne⟩ := h
  have pos : 0 < (ss.map PyData.str).length := by
    rw [List.length_map]
    cases ss with
    | nil => exact absurd rfl ne
    | cons a b => simp
  refine ⟨ss, rfl, ?_, ?_⟩
  · obtain ⟨x, hx, e⟩ := at_pos (L := ss.map PyData.str) (i := 0) (by decide) (by omega)
    obtain ⟨s, hm, rfl⟩ := List.mem_map.mp hx
    exact ⟨s, hs.of s hm, e⟩
  · obtain ⟨x, hx, e⟩ := at_last pos
    obtain ⟨s, hm, rfl⟩ := List.mem_map.mp hx
    exact ⟨s, hs.of s hm, e⟩
end Vf.Law
/-! Rows. -/
namespace Vf.Law
open PySem PySem.Spec L2
def VALS : List PyData := [.none, .int 0, .int 1, .int 2, .int 3, .int (-1), .int (-5), .int 10, .int 100000000000000000000, .int 99999999999999999999999999997, .int (-10000000000000000000000000000), .int 68, .int (-97)]
theorem five {n : Int} : ∃ x ∈ VALS, atI [PyData.none, .int 1, .int 2, .int 1, .int 2] (n % 5) = some x := by
  have h : n % 5 = 0 ∨ n % 5 = 1 ∨ n % 5 = 2 ∨ n % 5 = 3 ∨ n % 5 = 4 := by omega
  unfold VALS
  rcases h with h | h | h | h | h <;> rw [h]
  · exact ⟨_, by simp, q_at (n := 0) rfl⟩
  · exact ⟨_, by simp, q_at (n := 1) rfl⟩
  · exact ⟨_, by simp, q_at (n := 2) rfl⟩
  · exact ⟨_, by simp, q_at (n := 3) rfl⟩
  · exact ⟨_, by simp, q_at (n := 4) rfl⟩
abbrev L16 : List PyData := [.none, .int 0, .int 1, .int 2, .int 3, .int (-1), .int (-5), .int 10, .int 1, .int 2, .int 0, .int 100000000000000000000, .int (100000000000000000000000000000 - 3), .int (0 - 10000000000000000000000000000), .int 68, .int (-97)]
theorem sixteen {n : Int} : ∃ x ∈ VALS, atI L16 (n % 16) = some x := by
  have h : n % 16 = 0 ∨ n % 16 = 1 ∨ n % 16 = 2 ∨ n % 16 = 3 ∨ n % 16 = 4 ∨ n % 16 = 5 ∨ n % 16 = 6 ∨ n % 16 = 7 ∨ n % 16 = 8 ∨ n % 16 = 9 ∨ n % 16 = 10 ∨ n % 16 = 11 ∨ n % 16 = 12 ∨ n % 16 = 13 ∨ n % 16 = 14 ∨ n % 16 = 15 := by omega
  unfold VALS L16
  rcases h with h | h | h | h | h | h | h | h | h | h | h | h | h | h | h | h <;> rw [h]
  · exact ⟨_, by simp, q_at (n := 0) rfl⟩
  · exact ⟨_, by simp, q_at (n := 1) rfl⟩
  · exact ⟨_, by simp, q_at (n := 2) rfl⟩
  · exact ⟨_, by simp, q_at (n := 3) rfl⟩
  · exact ⟨_, by simp, q_at (n := 4) rfl⟩
  · exact ⟨_, by simp, q_at (n := 5) rfl⟩
  · exact ⟨_, by simp, q_at (n := 6) rfl⟩
  · exact ⟨_, by simp, q_at (n := 7) rfl⟩
  · exact ⟨_, by simp, q_at (n := 8) rfl⟩
  · exact ⟨_, by simp, q_at (n := 9) rfl⟩
  · exact ⟨_, by simp, q_at (n := 10) rfl⟩
  · exact ⟨_, by simp, q_at (n := 11) rfl⟩
  · exact ⟨_, by simp, q_at (n := 12) rfl⟩
  · exact ⟨_, by simp, q_at (n := 13) rfl⟩
  · exact ⟨_, by simp, q_at (n := 14) rfl⟩
  · exact ⟨_, by simp, q_at (n := 15) rfl⟩
theorem value_ok (n w : Int) : ∃ (n' : Int) (x : PyData), x ∈ VALS ∧ fn__law_value [.brw [.int n], .d (.int w)] = .ok (.d x) [.brw [.int n'], .d (.int w)] := by
  have c5 := fun (n : Int) (r : En) => cb0 (n := n) (s := 5) (r := r) (by decide)
  have c16 := fun (n : Int) (r : En) => cb0 (n := n) (s := 16) (r := r) (by decide)
  have l5 : ∀ w, lim 5 w = some w := fun w => z_lim (by decide)
  have l16 : ∀ w, lim 16 w = some w := fun w => z_lim (by decide)
  by_cases h : w = 0
  · obtain ⟨x, hx, at_⟩ := five (n := n)
    refine ⟨n / 5, x, hx, ?_⟩
    unfold fn__law_value dn__law_value
    simp only [z_ob, z_om, z_b1, z_b2, z_be1, z_be2, z_bs1, z_bs2, z_bs3, z_bl1, z_bl2, z_bc1, z_bc2, z_cr1, z_cr2, z_or, z_os, z_oo, z_ol, z_oB, z_name, z_sn1, z_sn2, z_sn3, z_sn5, z_sn6, z_sn7, z_sn8, z_sn4, z_rs1, z_rs2, z_rs3, z_rs4, z_sr1, z_sr2, z_sr3, z_rss0, z_rss1, z_es, z_es1, z_es2, z_est, z_e1, z_e2, z_e4, z_se1, z_se2, z_se3, z_e5, z_nb4, z_nb5, z_nb6, z_a5, z_a6, z_a7, z_nb0, z_nb1, z_nb2, z_nb3, z_a1, z_a2, z_a3, z_a4, z_c, z_u2, z_u1, z_un, z_ev0, z_ev1, z_tup, z_lst, z_dt0, z_dt1, z_d1, z_isB, z_bt, z_bf, z_st, z_sf, z_and, z_dor, z_ite, z_not, z_no, z_chain, z_isi, z_iw1, z_iw2, z_iw3, z_isN, z_notN, z_nw1, z_nw2, z_mul, z_mw1, z_mw2, z_sl, z_po0, z_po1, z_io, z_oa, z_so1, z_so2, z_up, z_su1, z_su2, z_mut, z_mo, z_mt, z_meth, z_seq, z_next, z_asg, z_if, z_ret, z_rt, z_m1, z_m2, z_m3, z_m5, z_m6, z_m7, z_sm3, z_sm4, z_f5, z_f6, z_f7, z_k5, z_r4, z_r5, z_r6, z_m4, z_sm1, z_sm2, z_drop, z_raise, z_has, z_ho, z_seti, z_sI, z_fn, z_ent, z_f1, z_f2, z_f3, z_f4, z_k0, z_k1, z_k2, z_k3, z_k4, z_call, z_r1, z_r2, z_r3, z_callB, z_for, z_bls1, z_outR, z_fg0, z_fg1, z_lp1, z_lp2, z_lp3, z_it1, z_it2, z_rn0, z_asgT, z_tt, z_ta0, z_ta1, z_par, z_two, z_setW, List.getElem?_cons_zero, List.getElem?_cons_succ, List.set_cons_zero, List.set_cons_succ, List.map_cons, List.map_nil, List.length_cons, List.length_nil, List.cons_append, List.nil_append, List.replicate, Nat.zero_add, Nat.reduceAdd, Nat.reduceSub, if_true, List.append_nil, q_addI, q_sub, q_neg, q_cmp, q_ixL, q_ixT, q_lenL, q_lenT, q_int, q_max, q_min, q_tupL, q_lstT, q_isB, q_slL, q_slT, q_eqS, q_neS, q_tn, q_at0, q_rev, q_isNB, q_tupT, q_lstL, q_eqI, decide_eq_true h, l5, c5, at_]
  · obtain ⟨x, hx, at_⟩ := sixteen (n := n)
    have p1 : opPow (.int 10) (.int 20) = some (.d (.int 100000000000000000000)) := q_pow (i := 10) (j := 20) (by decide)
    have p2 : opPow (.int 10) (.int 29) = some (.d (.int 100000000000000000000000000000)) := q_pow (i := 10) (j := 29) (by decide)
    have p3 : opPow (.int 10) (.int 28) = some (.d (.int 10000000000000000000000000000)) := q_pow (i := 10) (j := 28) (by decide)
    refine ⟨n / 16, x, hx, ?_⟩
    unfold L16 at at_
    unfold fn__law_value dn__law_value
    simp only [z_ob, z_om, z_b1, z_b2, z_be1, z_be2, z_bs1, z_bs2, z_bs3, z_bl1, z_bl2, z_bc1, z_bc2, z_cr1, z_cr2, z_or, z_os, z_oo, z_ol, z_oB, z_name, z_sn1, z_sn2, z_sn3, z_sn5, z_sn6, z_sn7, z_sn8, z_sn4, z_rs1, z_rs2, z_rs3, z_rs4, z_sr1, z_sr2, z_sr3, z_rss0, z_rss1, z_es, z_es1, z_es2, z_est, z_e1, z_e2, z_e4, z_se1, z_se2, z_se3, z_e5, z_nb4, z_nb5, z_nb6, z_a5, z_a6, z_a7, z_nb0, z_nb1, z_nb2, z_nb3, z_a1, z_a2, z_a3, z_a4, z_c, z_u2, z_u1, z_un, z_ev0, z_ev1, z_tup, z_lst, z_dt0, z_dt1, z_d1, z_isB, z_bt, z_bf, z_st, z_sf, z_and, z_dor, z_ite, z_not, z_no, z_chain, z_isi, z_iw1, z_iw2, z_iw3, z_isN, z_notN, z_nw1, z_nw2, z_mul, z_mw1, z_mw2, z_sl, z_po0, z_po1, z_io, z_oa, z_so1, z_so2, z_up, z_su1, z_su2, z_mut, z_mo, z_mt, z_meth, z_seq, z_next, z_asg, z_if, z_ret, z_rt, z_m1, z_m2, z_m3, z_m5, z_m6, z_m7, z_sm3, z_sm4, z_f5, z_f6, z_f7, z_k5, z_r4, z_r5, z_r6, z_m4, z_sm1, z_sm2, z_drop, z_raise, z_has, z_ho, z_seti, z_sI, z_fn, z_ent, z_f1, z_f2, z_f3, z_f4, z_k0, z_k1, z_k2, z_k3, z_k4, z_call, z_r1, z_r2, z_r3, z_callB, z_for, z_bls1, z_outR, z_fg0, z_fg1, z_lp1, z_lp2, z_lp3, z_it1, z_it2, z_rn0, z_asgT, z_tt, z_ta0, z_ta1, z_par, z_two, z_setW, List.getElem?_cons_zero, List.getElem?_cons_succ, List.set_cons_zero, List.set_cons_succ, List.map_cons, List.map_nil, List.length_cons, List.length_nil, List.cons_append, List.nil_append, List.replicate, Nat.zero_add, Nat.reduceAdd, Nat.reduceSub, if_true, List.append_nil, q_addI, q_sub, q_neg, q_cmp, q_ixL, q_ixT, q_lenL, q_lenT, q_int, q_max, q_min, q_tupL, q_lstT, q_isB, q_slL, q_slT, q_eqS, q_neS, q_tn, q_at0, q_rev, q_isNB, q_tupT, q_lstL, q_eqI, decide_eq_false h, l16, c16, p1, p2, p3, at_]
theorem row_loop (S : PyData) (w : Int) : ∀ (l : List PyData) (n : Int) (acc : List PyData), acc.length + l.length ≤ 1000 → ∃ (n' : Int) (xs : List PyData), xs.length = l.length ∧ (∀ x ∈ xs, x ∈ VALS) ∧
    lcGo [3] (tgName 3) (dC (.bool true)) el_law_row_1 l [some (.brw [.int n]), some (.d S), some (.d (.int w)), none] acc = some (acc ++ xs, [some (.brw [.int n']), some (.d S), some (.d (.int w)), none])
  | [], n, acc, _ => ⟨n, [], rfl, fun _ h => (nomatch h), by rw [List.append_nil]; rfl⟩
  | y :: l, n, acc, few => by
    obtain ⟨n1, x, hx, hv⟩ := value_ok n w
    have cb : ∀ r : En, callB 2 fn__law_value [.loc 0, .d (.int w)] (some (.brw [.int n]) :: r) = .ok (.d x) (some (.brw [.int n1]) :: r) := fun r => z_cb (xs := [.int n]) (ys := [.int n1]) (us := [.d (.int w)]) rfl rfl hv (.inl rfl) rfl
    rw [List.length_cons] at few
    obtain ⟨n', xs, h1, h2, h3⟩ := row_loop S w l n1 (acc ++ [x]) (by rw [List.length_append]; simp only [List.length_cons, List.length_nil]; omega)
    refine ⟨n', x :: xs, by rw [List.length_cons, List.length_cons, h1], fun z hz => ?_, ?_⟩
    · rcases List.mem_cons.mp hz with z1 | z1
      · rw [z1]; exact hx
      · exact h2 z z1
    · have lt : acc.length ≤ 1000000 := by omega
      rw [z_lg]
      unfold el_law_row_1
      unfold el_law_row_1 at h3
      simp only [z_ob, z_om, z_b1, z_b2, z_be1, z_be2, z_bs1, z_bs2, z_bs3, z_bl1, z_bl2, z_bc1, z_bc2, z_cr1, z_cr2, z_or, z_os, z_oo, z_ol, z_oB, z_name, z_sn1, z_sn2, z_sn3, z_sn5, z_sn6, z_sn7, z_sn8, z_sn4, z_rs1, z_rs2, z_rs3, z_rs4, z_sr1, z_sr2, z_sr3, z_rss0, z_rss1, z_es, z_es1, z_es2, z_est, z_e1, z_e2, z_e4, z_se1, z_se2, z_se3, z_e5, z_nb4, z_nb5, z_nb6, z_a5, z_a6, z_a7, z_nb0, z_nb1, z_nb2, z_nb3, z_a1, z_a2, z_a3, z_a4, z_c, z_u2, z_u1, z_un, z_ev0, z_ev1, z_tup, z_lst, z_dt0, z_dt1, z_d1, z_isB, z_bt, z_bf, z_st, z_sf, z_and, z_dor, z_ite, z_not, z_no, z_chain, z_isi, z_iw1, z_iw2, z_iw3, z_isN, z_notN, z_nw1, z_nw2, z_mul, z_mw1, z_mw2, z_sl, z_po0, z_po1, z_io, z_oa, z_so1, z_so2, z_up, z_su1, z_su2, z_mut, z_mo, z_mt, z_meth, z_seq, z_next, z_asg, z_if, z_ret, z_rt, z_m1, z_m2, z_m3, z_m5, z_m6, z_m7, z_sm3, z_sm4, z_f5, z_f6, z_f7, z_k5, z_r4, z_r5, z_r6, z_m4, z_sm1, z_sm2, z_drop, z_raise, z_has, z_ho, z_seti, z_sI, z_fn, z_ent, z_f1, z_f2, z_f3, z_f4, z_k0, z_k1, z_k2, z_k3, z_k4, z_call, z_r1, z_r2, z_r3, z_callB, z_for, z_bls1, z_outR, z_fg0, z_fg1, z_lp1, z_lp2, z_lp3, z_it1, z_it2, z_rn0, z_asgT, z_tt, z_ta0, z_ta1, z_par, z_two, z_setW, List.getElem?_cons_zero, List.getElem?_cons_succ, List.set_cons_zero, List.set_cons_succ, List.map_cons, List.map_nil, List.length_cons, List.length_nil, List.cons_append, List.nil_append, List.replicate, Nat.zero_add, Nat.reduceAdd, Nat.reduceSub, if_true, List.append_nil, q_addI, q_sub, q_neg, q_cmp, q_ixL, q_ixT, q_lenL, q_lenT, q_int, q_max, q_min, q_tupL, q_lstT, q_isB, q_slL, q_slT, q_eqS, q_neS, q_tn, q_at0, q_rev, q_isNB, q_tupT, q_lstL, z_okr, cond_true, cb, if_pos lt, z_w0, z_w1, h3, List.append_assoc]
theorem row_ok (n w : Int) (cs : List PyData) (few : cs.length ≤ 6) : ∃ (n' : Int) (xs : List PyData), xs.length = cs.length ∧ (∀ x ∈ xs, x ∈ VALS) ∧
    fn__law_row [.brw [.int n], .d (.list cs), .d (.int w)] = .ok (.d (.tuple xs)) [.brw [.int n'], .d (.list cs), .d (.int w)] := by
  obtain ⟨n', xs, h1, h2, h3⟩ := row_loop (.list cs) w cs n [] (by simp; omega)
  refine ⟨n', xs, h1, h2, ?_⟩
  have no : noOwn [some (.brw [.int n]), some (.d (.list cs)), some (.d (.int w)), none] [3] = true := rfl
  have e : dLc (dName 1) [3] (tgName 3) (dC (.bool true)) el_law_row_1 [some (.brw [.int n]), some (.d (.list cs)), some (.d (.int w)), none] = .ok (.own xs) [some (.brw [.int n']), some (.d (.list cs)), some (.d (.int w)), none] := by
    show outC (bif noOwn [some (.brw [.int n]), some (.d (.list cs)), some (.d (.int w)), none] [3] then lcGo [3] (tgName 3) (dC (.bool true)) el_law_row_1 cs [some (.brw [.int n]), some (.d (.list cs)), some (.d (.int w)), none] [] else none) _ [3] = _
    rw [no, cond_true, h3]
    rfl
  unfold fn__law_row dn__law_row
  simp only [z_ob, z_om, z_b1, z_b2, z_be1, z_be2, z_bs1, z_bs2, z_bs3, z_bl1, z_bl2, z_bc1, z_bc2, z_cr1, z_cr2, z_or, z_os, z_oo, z_ol, z_oB, z_name, z_sn1, z_sn2, z_sn3, z_sn5, z_sn6, z_sn7, z_sn8, z_sn4, z_rs1, z_rs2, z_rs3, z_rs4, z_sr1, z_sr2, z_sr3, z_rss0, z_rss1, z_es, z_es1, z_es2, z_est, z_e1, z_e2, z_e4, z_se1, z_se2, z_se3, z_e5, z_nb4, z_nb5, z_nb6, z_a5, z_a6, z_a7, z_nb0, z_nb1, z_nb2, z_nb3, z_a1, z_a2, z_a3, z_a4, z_c, z_u2, z_u1, z_un, z_ev0, z_ev1, z_tup, z_lst, z_dt0, z_dt1, z_d1, z_isB, z_bt, z_bf, z_st, z_sf, z_and, z_dor, z_ite, z_not, z_no, z_chain, z_isi, z_iw1, z_iw2, z_iw3, z_isN, z_notN, z_nw1, z_nw2, z_mul, z_mw1, z_mw2, z_sl, z_po0, z_po1, z_io, z_oa, z_so1, z_so2, z_up, z_su1, z_su2, z_mut, z_mo, z_mt, z_meth, z_seq, z_next, z_asg, z_if, z_ret, z_rt, z_m1, z_m2, z_m3, z_m5, z_m6, z_m7, z_sm3, z_sm4, z_f5, z_f6, z_f7, z_k5, z_r4, z_r5, z_r6, z_m4, z_sm1, z_sm2, z_drop, z_raise, z_has, z_ho, z_seti, z_sI, z_fn, z_ent, z_f1, z_f2, z_f3, z_f4, z_k0, z_k1, z_k2, z_k3, z_k4, z_call, z_r1, z_r2, z_r3, z_callB, z_for, z_bls1, z_outR, z_fg0, z_fg1, z_lp1, z_lp2, z_lp3, z_it1, z_it2, z_rn0, z_asgT, z_tt, z_ta0, z_ta1, z_par, z_two, z_setW, List.getElem?_cons_zero, List.getElem?_cons_succ, List.set_cons_zero, List.set_cons_succ, List.map_cons, List.map_nil, List.length_cons, List.length_nil, List.cons_append, List.nil_append, List.replicate, Nat.zero_add, Nat.reduceAdd, Nat.reduceSub, if_true, List.append_nil, q_addI, q_sub, q_neg, q_cmp, q_ixL, q_ixT, q_lenL, q_lenT, q_int, q_max, q_min, q_tupL, q_lstT, q_isB, q_slL, q_slT, q_eqS, q_neS, q_tn, q_at0, q_rev, q_isNB, q_tupT, q_lstL, e]
def valB : PyData → Bool
  | .none => true
  | .int _ => true
  | _ => false
def noDict : PyData → Bool
  | .dict _ => false
  | _ => true
theorem value_is {v : PyData} (h : noDict v = true) : fn_is_value [.d v] = .ok (.d (.bool (valB v))) [.d v] := by
  cases v with
  | dict x => cases h
  | _ => rfl
theorem row_is {s : PyData} {cs : List PyData} (hs : s = .list cs) (g : fn_is_schema [.d s] = .ok (.d (.bool true)) [.d s]) {x : PyData} (nd : ∀ xs, x = .tuple xs → xs.length ≤ 1000 ∧ ∀ y ∈ xs, noDict y = true) (no : noDict x = true) :
    fn_is_row [.d s, .d x] = .ok (.d (.bool (match x with
      | .tuple xs => decide (xs.length = cs.length) && xs.all valB
      | _ => false))) [.d s, .d x] := by
  subst hs
  have cc : ∀ e : En, callV 1 fn_check_schema [.d (.list cs)] e = .ok (.d .none) e := fun e => by
    rw [z_cv rfl, check_good g]
    rfl
  unfold fn_is_row dn_is_row
  cases x with
  | tuple xs =>
    obtain ⟨few, nd⟩ := nd xs rfl
    have at_ : aTuple (.tuple xs) = some true := rfl
    have lc : dLc (dName 1) [2] (tgName 2) (dC (.bool true)) el_is_row_1 [some (.d (.list cs)), some (.d (.tuple xs)), none] = .ok (.own (xs.map fun y => .bool (valB y))) [some (.d (.list cs)), some (.d (.tuple xs)), none] := by
      refine dlc_pure (src := .tuple xs) rfl rfl rfl (by omega) fun x hx => ?_
      have cv : ∀ e : En, callV 1 fn_is_value [.d x] e = .ok (.d (.bool (valB x))) e := fun e => by
        rw [z_cv rfl, value_is (nd x hx)]
        rfl
      unfold el_is_row_1
      simp only [z_ob, z_om, z_b1, z_b2, z_be1, z_be2, z_bs1, z_bs2, z_bs3, z_bl1, z_bl2, z_bc1, z_bc2, z_cr1, z_cr2, z_or, z_os, z_oo, z_ol, z_oB, z_name, z_sn1, z_sn2, z_sn3, z_sn5, z_sn6, z_sn7, z_sn8, z_sn4, z_rs1, z_rs2, z_rs3, z_rs4, z_sr1, z_sr2, z_sr3, z_rss0, z_rss1, z_es, z_es1, z_es2, z_est, z_e1, z_e2, z_e4, z_se1, z_se2, z_se3, z_e5, z_nb4, z_nb5, z_nb6, z_a5, z_a6, z_a7, z_nb0, z_nb1, z_nb2, z_nb3, z_a1, z_a2, z_a3, z_a4, z_c, z_u2, z_u1, z_un, z_ev0, z_ev1, z_tup, z_lst, z_dt0, z_dt1, z_d1, z_isB, z_bt, z_bf, z_st, z_sf, z_and, z_dor, z_ite, z_not, z_no, z_chain, z_isi, z_iw1, z_iw2, z_iw3, z_isN, z_notN, z_nw1, z_nw2, z_mul, z_mw1, z_mw2, z_sl, z_po0, z_po1, z_io, z_oa, z_so1, z_so2, z_up, z_su1, z_su2, z_mut, z_mo, z_mt, z_meth, z_seq, z_next, z_asg, z_if, z_ret, z_rt, z_m1, z_m2, z_m3, z_m5, z_m6, z_m7, z_sm3, z_sm4, z_f5, z_f6, z_f7, z_k5, z_r4, z_r5, z_r6, z_m4, z_sm1, z_sm2, z_drop, z_raise, z_has, z_ho, z_seti, z_sI, z_fn, z_ent, z_f1, z_f2, z_f3, z_f4, z_k0, z_k1, z_k2, z_k3, z_k4, z_call, z_r1, z_r2, z_r3, z_callB, z_for, z_bls1, z_outR, z_fg0, z_fg1, z_lp1, z_lp2, z_lp3, z_it1, z_it2, z_rn0, z_asgT, z_tt, z_ta0, z_ta1, z_par, z_two, z_setW, List.getElem?_cons_zero, List.getElem?_cons_succ, List.set_cons_zero, List.set_cons_succ, List.map_cons, List.map_nil, List.length_cons, List.length_nil, List.cons_append, List.nil_append, List.replicate, Nat.zero_add, Nat.reduceAdd, Nat.reduceSub, if_true, List.append_nil, q_addI, q_sub, q_neg, q_cmp, q_ixL, q_ixT, q_lenL, q_lenT, q_int, q_max, q_min, q_tupL, q_lstT, q_isB, q_slL, q_slT, q_eqS, q_neS, q_tn, q_at0, q_rev, q_isNB, q_tupT, q_lstL, cv]
    have oa : opAll [.list (xs.map fun y => .bool (valB y))] = some (.d (.bool (xs.all valB))) := by
      rw [q_all (bools_map valB _), List.all_map]
      rfl
    by_cases e : xs.length = cs.length
    · have d : decide ((xs.length : Int) = (cs.length : Int)) = true := decide_eq_true (by omega)
      simp only [z_ob, z_om, z_b1, z_b2, z_be1, z_be2, z_bs1, z_bs2, z_bs3, z_bl1, z_bl2, z_bc1, z_bc2, z_cr1, z_cr2, z_or, z_os, z_oo, z_ol, z_oB, z_name, z_sn1, z_sn2, z_sn3, z_sn5, z_sn6, z_sn7, z_sn8, z_sn4, z_rs1, z_rs2, z_rs3, z_rs4, z_sr1, z_sr2, z_sr3, z_rss0, z_rss1, z_es, z_es1, z_es2, z_est, z_e1, z_e2, z_e4, z_se1, z_se2, z_se3, z_e5, z_nb4, z_nb5, z_nb6, z_a5, z_a6, z_a7, z_nb0, z_nb1, z_nb2, z_nb3, z_a1, z_a2, z_a3, z_a4, z_c, z_u2, z_u1, z_un, z_ev0, z_ev1, z_tup, z_lst, z_dt0, z_dt1, z_d1, z_isB, z_bt, z_bf, z_st, z_sf, z_and, z_dor, z_ite, z_not, z_no, z_chain, z_isi, z_iw1, z_iw2, z_iw3, z_isN, z_notN, z_nw1, z_nw2, z_mul, z_mw1, z_mw2, z_sl, z_po0, z_po1, z_io, z_oa, z_so1, z_so2, z_up, z_su1, z_su2, z_mut, z_mo, z_mt, z_meth, z_seq, z_next, z_asg, z_if, z_ret, z_rt, z_m1, z_m2, z_m3, z_m5, z_m6, z_m7, z_sm3, z_sm4, z_f5, z_f6, z_f7, z_k5, z_r4, z_r5, z_r6, z_m4, z_sm1, z_sm2, z_drop, z_raise, z_has, z_ho, z_seti, z_sI, z_fn, z_ent, z_f1, z_f2, z_f3, z_f4, z_k0, z_k1, z_k2, z_k3, z_k4, z_call, z_r1, z_r2, z_r3, z_callB, z_for, z_bls1, z_outR, z_fg0, z_fg1, z_lp1, z_lp2, z_lp3, z_it1, z_it2, z_rn0, z_asgT, z_tt, z_ta0, z_ta1, z_par, z_two, z_setW, List.getElem?_cons_zero, List.getElem?_cons_succ, List.set_cons_zero, List.set_cons_succ, List.map_cons, List.map_nil, List.length_cons, List.length_nil, List.cons_append, List.nil_append, List.replicate, Nat.zero_add, Nat.reduceAdd, Nat.reduceSub, if_true, List.append_nil, q_addI, q_sub, q_neg, q_cmp, q_ixL, q_ixT, q_lenL, q_lenT, q_int, q_max, q_min, q_tupL, q_lstT, q_isB, q_slL, q_slT, q_eqS, q_neS, q_tn, q_at0, q_rev, q_isNB, q_tupT, q_lstL, cc, at_, q_neI, d, lc, oa, Bool.not_true, Bool.not_false, decide_eq_true e, Bool.true_and]
    · have d : decide ((xs.length : Int) = (cs.length : Int)) = false := decide_eq_false (by omega)
      simp only [z_ob, z_om, z_b1, z_b2, z_be1, z_be2, z_bs1, z_bs2, z_bs3, z_bl1, z_bl2, z_bc1, z_bc2, z_cr1, z_cr2, z_or, z_os, z_oo, z_ol, z_oB, z_name, z_sn1, z_sn2, z_sn3, z_sn5, z_sn6, z_sn7, z_sn8, z_sn4, z_rs1, z_rs2, z_rs3, z_rs4, z_sr1, z_sr2, z_sr3, z_rss0, z_rss1, z_es, z_es1, z_es2, z_est, z_e1, z_e2, z_e4, z_se1, z_se2, z_se3, z_e5, z_nb4, z_nb5, z_nb6, z_a5, z_a6, z_a7, z_nb0, z_nb1, z_nb2, z_nb3, z_a1, z_a2, z_a3, z_a4, z_c, z_u2, z_u1, z_un, z_ev0, z_ev1, z_tup, z_lst, z_dt0, z_dt1, z_d1, z_isB, z_bt, z_bf, z_st, z_sf, z_and, z_dor, z_ite, z_not, z_no, z_chain, z_isi, z_iw1, z_iw2, z_iw3, z_isN, z_notN, z_nw1, z_nw2, z_mul, z_mw1, z_mw2, z_sl, z_po0, z_po1, z_io, z_oa, z_so1, z_so2, z_up, z_su1, z_su2, z_mut, z_mo, z_mt, z_meth, z_seq, z_next, z_asg, z_if, z_ret, z_rt, z_m1, z_m2, z_m3, z_m5, z_m6, z_m7, z_sm3, z_sm4, z_f5, z_f6, z_f7, z_k5, z_r4, z_r5, z_r6, z_m4, z_sm1, z_sm2, z_drop, z_raise, z_has, z_ho, z_seti, z_sI, z_fn, z_ent, z_f1, z_f2, z_f3, z_f4, z_k0, z_k1, z_k2, z_k3, z_k4, z_call, z_r1, z_r2, z_r3, z_callB, z_for, z_bls1, z_outR, z_fg0, z_fg1, z_lp1, z_lp2, z_lp3, z_it1, z_it2, z_rn0, z_asgT, z_tt, z_ta0, z_ta1, z_par, z_two, z_setW, List.getElem?_cons_zero, List.getElem?_cons_succ, List.set_cons_zero, List.set_cons_succ, List.map_cons, List.map_nil, List.length_cons, List.length_nil, List.cons_append, List.nil_append, List.replicate, Nat.zero_add, Nat.reduceAdd, Nat.reduceSub, if_true, List.append_nil, q_addI, q_sub, q_neg, q_cmp, q_ixL, q_ixT, q_lenL, q_lenT, q_int, q_max, q_min, q_tupL, q_lstT, q_isB, q_slL, q_slT, q_eqS, q_neS, q_tn, q_at0, q_rev, q_isNB, q_tupT, q_lstL, cc, at_, q_neI, d, lc, oa, Bool.not_true, Bool.not_false, decide_eq_false e, Bool.false_and]
  | dict x => cases no
  | none => simp only [z_ob, z_om, z_b1, z_b2, z_be1, z_be2, z_bs1, z_bs2, z_bs3, z_bl1, z_bl2, z_bc1, z_bc2, z_cr1, z_cr2, z_or, z_os, z_oo, z_ol, z_oB, z_name, z_sn1, z_sn2, z_sn3, z_sn5, z_sn6, z_sn7, z_sn8, z_sn4, z_rs1, z_rs2, z_rs3, z_rs4, z_sr1, z_sr2, z_sr3, z_rss0, z_rss1, z_es, z_es1, z_es2, z_est, z_e1, z_e2, z_e4, z_se1, z_se2, z_se3, z_e5, z_nb4, z_nb5, z_nb6, z_a5, z_a6, z_a7, z_nb0, z_nb1, z_nb2, z_nb3, z_a1, z_a2, z_a3, z_a4, z_c, z_u2, z_u1, z_un, z_ev0, z_ev1, z_tup, z_lst, z_dt0, z_dt1, z_d1, z_isB, z_bt, z_bf, z_st, z_sf, z_and, z_dor, z_ite, z_not, z_no, z_chain, z_isi, z_iw1, z_iw2, z_iw3, z_isN, z_notN, z_nw1, z_nw2, z_mul, z_mw1, z_mw2, z_sl, z_po0, z_po1, z_io, z_oa, z_so1, z_so2, z_up, z_su1, z_su2, z_mut, z_mo, z_mt, z_meth, z_seq, z_next, z_asg, z_if, z_ret, z_rt, z_m1, z_m2, z_m3, z_m5, z_m6, z_m7, z_sm3, z_sm4, z_f5, z_f6, z_f7, z_k5, z_r4, z_r5, z_r6, z_m4, z_sm1, z_sm2, z_drop, z_raise, z_has, z_ho, z_seti, z_sI, z_fn, z_ent, z_f1, z_f2, z_f3, z_f4, z_k0, z_k1, z_k2, z_k3, z_k4, z_call, z_r1, z_r2, z_r3, z_callB, z_for, z_bls1, z_outR, z_fg0, z_fg1, z_lp1, z_lp2, z_lp3, z_it1, z_it2, z_rn0, z_asgT, z_tt, z_ta0, z_ta1, z_par, z_two, z_setW, List.getElem?_cons_zero, List.getElem?_cons_succ, List.set_cons_zero, List.set_cons_succ, List.map_cons, List.map_nil, List.length_cons, List.length_nil, List.cons_append, List.nil_append, List.replicate, Nat.zero_add, Nat.reduceAdd, Nat.reduceSub, if_true, List.append_nil, q_addI, q_sub, q_neg, q_cmp, q_ixL, q_ixT, q_lenL, q_lenT, q_int, q_max, q_min, q_tupL, q_lstT, q_isB, q_slL, q_slT, q_eqS, q_neS, q_tn, q_at0, q_rev, q_isNB, q_tupT, q_lstL, cc, show aTuple PyData.none = some false from rfl, Bool.not_true, Bool.not_false]
  | bool b => simp only [z_ob, z_om, z_b1, z_b2, z_be1, z_be2, z_bs1, z_bs2, z_bs3, z_bl1, z_bl2, z_bc1, z_bc2, z_cr1, z_cr2, z_or, z_os, z_oo, z_ol, z_oB, z_name, z_sn1, z_sn2, z_sn3, z_sn5, z_sn6, z_sn7, z_sn8, z_sn4, z_rs1, z_rs2, z_rs3, z_rs4, z_sr1, z_sr2, z_sr3, z_rss0, z_rss1, z_es, z_es1, z_es2, z_est, z_e1, z_e2, z_e4, z_se1, z_se2, z_se3, z_e5, z_nb4, z_nb5, z_nb6, z_a5, z_a6, z_a7, z_nb0, z_nb1, z_nb2, z_nb3, z_a1, z_a2, z_a3, z_a4, z_c, z_u2, z_u1, z_un, z_ev0, z_ev1, z_tup, z_lst, z_dt0, z_dt1, z_d1, z_isB, z_bt, z_bf, z_st, z_sf, z_and, z_dor, z_ite, z_not, z_no, z_chain, z_isi, z_iw1, z_iw2, z_iw3, z_isN, z_notN, z_nw1, z_nw2, z_mul, z_mw1, z_mw2, z_sl, z_po0, z_po1, z_io, z_oa, z_so1, z_so2, z_up, z_su1, z_su2, z_mut, z_mo, z_mt, z_meth, z_seq, z_next, z_asg, z_if, z_ret, z_rt, z_m1, z_m2, z_m3, z_m5, z_m6, z_m7, z_sm3, z_sm4, z_f5, z_f6, z_f7, z_k5, z_r4, z_r5, z_r6, z_m4, z_sm1, z_sm2, z_drop, z_raise, z_has, z_ho, z_seti, z_sI, z_fn, z_ent, z_f1, z_f2, z_f3, z_f4, z_k0, z_k1, z_k2, z_k3, z_k4, z_call, z_r1, z_r2, z_r3, z_callB, z_for, z_bls1, z_outR, z_fg0, z_fg1, z_lp1, z_lp2, z_lp3, z_it1, z_it2, z_rn0, z_asgT, z_tt, z_ta0, z_ta1, z_par, z_two, z_setW, List.getElem?_cons_zero, List.getElem?_cons_succ, List.set_cons_zero, List.set_cons_succ, List.map_cons, List.map_nil, List.length_cons, List.length_nil, List.cons_append, List.nil_append, List.replicate, Nat.zero_add, Nat.reduceAdd, Nat.reduceSub, if_true, List.append_nil, q_addI, q_sub, q_neg, q_cmp, q_ixL, q_ixT, q_lenL, q_lenT, q_int, q_max, q_min, q_tupL, q_lstT, q_isB, q_slL, q_slT, q_eqS, q_neS, q_tn, q_at0, q_rev, q_isNB, q_tupT, q_lstL, cc, show aTuple (PyData.bool b) = some false from rfl, Bool.not_true, Bool.not_false]
  | int b => simp only [z_ob, z_om, z_b1, z_b2, z_be1, z_be2, z_bs1, z_bs2, z_bs3, z_bl1, z_bl2, z_bc1, z_bc2, z_cr1, z_cr2, z_or, z_os, z_oo, z_ol, z_oB, z_name, z_sn1, z_sn2, z_sn3, z_sn5, z_sn6, z_sn7, z_sn8, z_sn4, z_rs1, z_rs2, z_rs3, z_rs4, z_sr1, z_sr2, z_sr3, z_rss0, z_rss1, z_es, z_es1, z_es2, z_est, z_e1, z_e2, z_e4, z_se1, z_se2, z_se3, z_e5, z_nb4, z_nb5, z_nb6, z_a5, z_a6, z_a7, z_nb0, z_nb1, z_nb2, z_nb3, z_a1, z_a2, z_a3, z_a4, z_c, z_u2, z_u1, z_un, z_ev0, z_ev1, z_tup, z_lst, z_dt0, z_dt1, z_d1, z_isB, z_bt, z_bf, z_st, z_sf, z_and, z_dor, z_ite, z_not, z_no, z_chain, z_isi, z_iw1, z_iw2, z_iw3, z_isN, z_notN, z_nw1, z_nw2, z_mul, z_mw1, z_mw2, z_sl, z_po0, z_po1, z_io, z_oa, z_so1, z_so2, z_up, z_su1, z_su2, z_mut, z_mo, z_mt, z_meth, z_seq, z_next, z_asg, z_if, z_ret, z_rt, z_m1, z_m2, z_m3, z_m5, z_m6, z_m7, z_sm3, z_sm4, z_f5, z_f6, z_f7, z_k5, z_r4, z_r5, z_r6, z_m4, z_sm1, z_sm2, z_drop, z_raise, z_has, z_ho, z_seti, z_sI, z_fn, z_ent, z_f1, z_f2, z_f3, z_f4, z_k0, z_k1, z_k2, z_k3, z_k4, z_call, z_r1, z_r2, z_r3, z_callB, z_for, z_bls1, z_outR, z_fg0, z_fg1, z_lp1, z_lp2, z_lp3, z_it1, z_it2, z_rn0, z_asgT, z_tt, z_ta0, z_ta1, z_par, z_two, z_setW, List.getElem?_cons_zero, List.getElem?_cons_succ, List.set_cons_zero, List.set_cons_succ, List.map_cons, List.map_nil, List.length_cons, List.length_nil, List.cons_append, List.nil_append, List.replicate, Nat.zero_add, Nat.reduceAdd, Nat.reduceSub, if_true, List.append_nil, q_addI, q_sub, q_neg, q_cmp, q_ixL, q_ixT, q_lenL, q_lenT, q_int, q_max, q_min, q_tupL, q_lstT, q_isB, q_slL, q_slT, q_eqS, q_neS, q_tn, q_at0, q_rev, q_isNB, q_tupT, q_lstL, cc, show aTuple (PyData.int b) = some false from rfl, Bool.not_true, Bool.not_false]
  | str b => simp only [z_ob, z_om, z_b1, z_b2, z_be1, z_be2, z_bs1, z_bs2, z_bs3, z_bl1, z_bl2, z_bc1, z_bc2, z_cr1, z_cr2, z_or, z_os, z_oo, z_ol, z_oB, z_name, z_sn1, z_sn2, z_sn3, z_sn5, z_sn6, z_sn7, z_sn8, z_sn4, z_rs1, z_rs2, z_rs3, z_rs4, z_sr1, z_sr2, z_sr3, z_rss0, z_rss1, z_es, z_es1, z_es2, z_est, z_e1, z_e2, z_e4, z_se1, z_se2, z_se3, z_e5, z_nb4, z_nb5, z_nb6, z_a5, z_a6, z_a7, z_nb0, z_nb1, z_nb2, z_nb3, z_a1, z_a2, z_a3, z_a4, z_c, z_u2, z_u1, z_un, z_ev0, z_ev1, z_tup, z_lst, z_dt0, z_dt1, z_d1, z_isB, z_bt, z_bf, z_st, z_sf, z_and, z_dor, z_ite, z_not, z_no, z_chain, z_isi, z_iw1, z_iw2, z_iw3, z_isN, z_notN, z_nw1, z_nw2, z_mul, z_mw1, z_mw2, z_sl, z_po0, z_po1, z_io, z_oa, z_so1, z_so2, z_up, z_su1, z_su2, z_mut, z_mo, z_mt, z_meth, z_seq, z_next, z_asg, z_if, z_ret, z_rt, z_m1, z_m2, z_m3, z_m5, z_m6, z_m7, z_sm3, z_sm4, z_f5, z_f6, z_f7, z_k5, z_r4, z_r5, z_r6, z_m4, z_sm1, z_sm2, z_drop, z_raise, z_has, z_ho, z_seti, z_sI, z_fn, z_ent, z_f1, z_f2, z_f3, z_f4, z_k0, z_k1, z_k2, z_k3, z_k4, z_call, z_r1, z_r2, z_r3, z_callB, z_for, z_bls1, z_outR, z_fg0, z_fg1, z_lp1, z_lp2, z_lp3, z_it1, z_it2, z_rn0, z_asgT, z_tt, z_ta0, z_ta1, z_par, z_two, z_setW, List.getElem?_cons_zero, List.getElem?_cons_succ, List.set_cons_zero, List.set_cons_succ, List.map_cons, List.map_nil, List.length_cons, List.length_nil, List.cons_append, List.nil_append, List.replicate, Nat.zero_add, Nat.reduceAdd, Nat.reduceSub, if_true, List.append_nil, q_addI, q_sub, q_neg, q_cmp, q_ixL, q_ixT, q_lenL, q_lenT, q_int, q_max, q_min, q_tupL, q_lstT, q_isB, q_slL, q_slT, q_eqS, q_neS, q_tn, q_at0, q_rev, q_isNB, q_tupT, q_lstL, cc, show aTuple (PyData.str b) = some false from rfl, Bool.not_true, Bool.not_false]
  | list b => simp only [z_ob, z_om, z_b1, z_b2, z_be1, z_be2, z_bs1, z_bs2, z_bs3, z_bl1, z_bl2, z_bc1, z_bc2, z_cr1, z_cr2, z_or, z_os, z_oo, z_ol, z_oB, z_name, z_sn1, z_sn2, z_sn3, z_sn5, z_sn6, z_sn7, z_sn8, z_sn4, z_rs1, z_rs2, z_rs3, z_rs4, z_sr1, z_sr2, z_sr3, z_rss0, z_rss1, z_es, z_es1, z_es2, z_est, z_e1, z_e2, z_e4, z_se1, z_se2, z_se3, z_e5, z_nb4, z_nb5, z_nb6, z_a5, z_a6, z_a7, z_nb0, z_nb1, z_nb2, z_nb3, z_a1, z_a2, z_a3, z_a4, z_c, z_u2, z_u1, z_un, z_ev0, z_ev1, z_tup, z_lst, z_dt0, z_dt1, z_d1, z_isB, z_bt, z_bf, z_st, z_sf, z_and, z_dor, z_ite, z_not, z_no, z_chain, z_isi, z_iw1, z_iw2, z_iw3, z_isN, z_notN, z_nw1, z_nw2, z_mul, z_mw1, z_mw2, z_sl, z_po0, z_po1, z_io, z_oa, z_so1, z_so2, z_up, z_su1, z_su2, z_mut, z_mo, z_mt, z_meth, z_seq, z_next, z_asg, z_if, z_ret, z_rt, z_m1, z_m2, z_m3, z_m5, z_m6, z_m7, z_sm3, z_sm4, z_f5, z_f6, z_f7, z_k5, z_r4, z_r5, z_r6, z_m4, z_sm1, z_sm2, z_drop, z_raise, z_has, z_ho, z_seti, z_sI, z_fn, z_ent, z_f1, z_f2, z_f3, z_f4, z_k0, z_k1, z_k2, z_k3, z_k4, z_call, z_r1, z_r2, z_r3, z_callB, z_for, z_bls1, z_outR, z_fg0, z_fg1, z_lp1, z_lp2, z_lp3, z_it1, z_it2, z_rn0, z_asgT, z_tt, z_ta0, z_ta1, z_par, z_two, z_setW, List.getElem?_cons_zero, List.getElem?_cons_succ, List.set_cons_zero, List.set_cons_succ, List.map_cons, List.map_nil, List.length_cons, List.length_nil, List.cons_append, List.nil_append, List.replicate, Nat.zero_add, Nat.reduceAdd, Nat.reduceSub, if_true, List.append_nil, q_addI, q_sub, q_neg, q_cmp, q_ixL, q_ixT, q_lenL, q_lenT, q_int, q_max, q_min, q_tupL, q_lstT, q_isB, q_slL, q_slT, q_eqS, q_neS, q_tn, q_at0, q_rev, q_isNB, q_tupT, q_lstL, cc, show aTuple (PyData.list b) = some false from rfl, Bool.not_true, Bool.not_false]
theorem row_err {s x : PyData} (h : BadS s) : fn_is_row [.d s, .d x] = .err "NoSchema" [.d s, .d x] := by
  have cc : ∀ e : En, callV 1 fn_check_schema [.d s] e = .err "NoSchema" e := fun e => by
    rw [z_cv rfl, check_bad h]
    rfl
  unfold fn_is_row dn_is_row
  simp only [z_ob, z_om, z_b1, z_b2, z_be1, z_be2, z_bs1, z_bs2, z_bs3, z_bl1, z_bl2, z_bc1, z_bc2, z_cr1, z_cr2, z_or, z_os, z_oo, z_ol, z_oB, z_name, z_sn1, z_sn2, z_sn3, z_sn5, z_sn6, z_sn7, z_sn8, z_sn4, z_rs1, z_rs2, z_rs3, z_rs4, z_sr1, z_sr2, z_sr3, z_rss0, z_rss1, z_es, z_es1, z_es2, z_est, z_e1, z_e2, z_e4, z_se1, z_se2, z_se3, z_e5, z_nb4, z_nb5, z_nb6, z_a5, z_a6, z_a7, z_nb0, z_nb1, z_nb2, z_nb3, z_a1, z_a2, z_a3, z_a4, z_c, z_u2, z_u1, z_un, z_ev0, z_ev1, z_tup, z_lst, z_dt0, z_dt1, z_d1, z_isB, z_bt, z_bf, z_st, z_sf, z_and, z_dor, z_ite, z_not, z_no, z_chain, z_isi, z_iw1, z_iw2, z_iw3, z_isN, z_notN, z_nw1, z_nw2, z_mul, z_mw1, z_mw2, z_sl, z_po0, z_po1, z_io, z_oa, z_so1, z_so2, z_up, z_su1, z_su2, z_mut, z_mo, z_mt, z_meth, z_seq, z_next, z_asg, z_if, z_ret, z_rt, z_m1, z_m2, z_m3, z_m5, z_m6, z_m7, z_sm3, z_sm4, z_f5, z_f6, z_f7, z_k5, z_r4, z_r5, z_r6, z_m4, z_sm1, z_sm2, z_drop, z_raise, z_has, z_ho, z_seti, z_sI, z_fn, z_ent, z_f1, z_f2, z_f3, z_f4, z_k0, z_k1, z_k2, z_k3, z_k4, z_call, z_r1, z_r2, z_r3, z_callB, z_for, z_bls1, z_outR, z_fg0, z_fg1, z_lp1, z_lp2, z_lp3, z_it1, z_it2, z_rn0, z_asgT, z_tt, z_ta0, z_ta1, z_par, z_two, z_setW, List.getElem?_cons_zero, List.getElem?_cons_succ, List.set_cons_zero, List.set_cons_succ, List.map_cons, List.map_nil, List.length_cons, List.length_nil, List.cons_append, List.nil_append, List.replicate, Nat.zero_add, Nat.reduceAdd, Nat.reduceSub, if_true, List.append_nil, q_addI, q_sub, q_neg, q_cmp, q_ixL, q_ixT, q_lenL, q_lenT, q_int, q_max, q_min, q_tupL, q_lstT, q_isB, q_slL, q_slT, q_eqS, q_neS, q_tn, q_at0, q_rev, q_isNB, q_tupT, q_lstL, cc]
theorem val_nice : ∀ x ∈ VALS, Nice 0 40 x := by
  intro x h
  refine nice_ok ?_
  revert x
  exact List.forall_mem_cons.mpr ⟨by decide +kernel, List.forall_mem_cons.mpr ⟨by decide +kernel, List.forall_mem_cons.mpr ⟨by decide +kernel, List.forall_mem_cons.mpr ⟨by decide +kernel, List.forall_mem_cons.mpr ⟨by decide +kernel, List.forall_mem_cons.mpr ⟨by decide +kernel, List.forall_mem_cons.mpr ⟨by decide +kernel, List.forall_mem_cons.mpr ⟨by decide +kernel, List.forall_mem_cons.mpr ⟨by decide +kernel, List.forall_mem_cons.mpr ⟨by decide +kernel, List.forall_mem_cons.mpr ⟨by decide +kernel, List.forall_mem_cons.mpr ⟨by decide +kernel, List.forall_mem_cons.mpr ⟨by decide +kernel, fun _ h => nomatch h⟩⟩⟩⟩⟩⟩⟩⟩⟩⟩⟩⟩⟩
theorem val_is : ∀ x ∈ VALS, valB x = true := by
  unfold VALS
  intro x h
  simp only [List.mem_cons, List.not_mem_nil, or_false] at h
  rcases h with h | h | h | h | h | h | h | h | h | h | h | h | h <;> (rw [h]; rfl)
theorem val_nd {x : PyData} (h : valB x = true) : noDict x = true := by
  cases x with
  | dict z => cases h
  | _ => rfl

/-- a row -/
structure RowS (n : Nat) (xs : List PyData) : Prop where
  len : xs.length = n
  v : ∀ x ∈ xs, x ∈ VALS
theorem RowS.nice {n : Nat} {xs : List PyData} (h : RowS n xs) (l6 : n ≤ 6) : Nice 1 255 (.tuple xs) := nice_tup (n := 6) (fun x hx => val_nice x (h.v x hx)) (by rw [h.len]; exact l6)
theorem RowS.is {cs xs : List PyData} (hc : Cols cs) (l : 1 ≤ cs.length ∧ cs.length ≤ 6) (h : RowS cs.length xs) : fn_is_row [.d (.list cs), .d (.tuple xs)] = .ok (.d (.bool true)) [.d (.list cs), .d (.tuple xs)] := by
  have e := row_is (s := .list cs) rfl (sch_good hc l) (x := .tuple xs) (fun ys e => by
    cases e
    exact ⟨by rw [h.len]; omega, fun y hy => val_nd (val_is y (h.v y hy))⟩) rfl
  have q : (decide (xs.length = cs.length) && xs.all valB) = true := by
    rw [decide_eq_true h.len, List.all_eq_true.mpr fun y hy => val_is y (h.v y hy)]
    rfl
  rw [e]
  show Rf.ok (.d (.bool (decide (xs.length = cs.length) && xs.all valB))) _ = _
  rw [q]
theorem RowS.check {cs xs : List PyData} (hc : Cols cs) (l : 1 ≤ cs.length ∧ cs.length ≤ 6) (h : RowS cs.length xs) : fn_check_row [.d (.list cs), .d (.tuple xs)] = .ok (.d .none) [.d (.list cs), .d (.tuple xs)] := by
  have cv := call_val (k := 2) rfl (h.is hc l)
  unfold fn_check_row dn_check_row
  simp only [z_ob, z_om, z_b1, z_b2, z_be1, z_be2, z_bs1, z_bs2, z_bs3, z_bl1, z_bl2, z_bc1, z_bc2, z_cr1, z_cr2, z_or, z_os, z_oo, z_ol, z_oB, z_name, z_sn1, z_sn2, z_sn3, z_sn5, z_sn6, z_sn7, z_sn8, z_sn4, z_rs1, z_rs2, z_rs3, z_rs4, z_sr1, z_sr2, z_sr3, z_rss0, z_rss1, z_es, z_es1, z_es2, z_est, z_e1, z_e2, z_e4, z_se1, z_se2, z_se3, z_e5, z_nb4, z_nb5, z_nb6, z_a5, z_a6, z_a7, z_nb0, z_nb1, z_nb2, z_nb3, z_a1, z_a2, z_a3, z_a4, z_c, z_u2, z_u1, z_un, z_ev0, z_ev1, z_tup, z_lst, z_dt0, z_dt1, z_d1, z_isB, z_bt, z_bf, z_st, z_sf, z_and, z_dor, z_ite, z_not, z_no, z_chain, z_isi, z_iw1, z_iw2, z_iw3, z_isN, z_notN, z_nw1, z_nw2, z_mul, z_mw1, z_mw2, z_sl, z_po0, z_po1, z_io, z_oa, z_so1, z_so2, z_up, z_su1, z_su2, z_mut, z_mo, z_mt, z_meth, z_seq, z_next, z_asg, z_if, z_ret, z_rt, z_m1, z_m2, z_m3, z_m5, z_m6, z_m7, z_sm3, z_sm4, z_f5, z_f6, z_f7, z_k5, z_r4, z_r5, z_r6, z_m4, z_sm1, z_sm2, z_drop, z_raise, z_has, z_ho, z_seti, z_sI, z_fn, z_ent, z_f1, z_f2, z_f3, z_f4, z_k0, z_k1, z_k2, z_k3, z_k4, z_call, z_r1, z_r2, z_r3, z_callB, z_for, z_bls1, z_outR, z_fg0, z_fg1, z_lp1, z_lp2, z_lp3, z_it1, z_it2, z_rn0, z_asgT, z_tt, z_ta0, z_ta1, z_par, z_two, z_setW, List.getElem?_cons_zero, List.getElem?_cons_succ, List.set_cons_zero, List.set_cons_succ, List.map_cons, List.map_nil, List.length_cons, List.length_nil, List.cons_append, List.nil_append, List.replicate, Nat.zero_add, Nat.reduceAdd, Nat.reduceSub, if_true, List.append_nil, q_addI, q_sub, q_neg, q_cmp, q_ixL, q_ixT, q_lenL, q_lenT, q_int, q_max, q_min, q_tupL, q_lstT, q_isB, q_slL, q_slT, q_eqS, q_neS, q_tn, q_at0, q_rev, q_isNB, q_tupT, q_lstL, cv, Bool.not_true]
theorem q_ixn {n k : Nat} (h : k < n) : ixN n (k : Int) = some k := by
  unfold ixN
  rw [if_pos (by omega), if_pos (by omega)]
  rfl

theorem near_loop (R : PyData) (w : Int) {m : Nat} : ∀ (k lo : Nat) (n : Int) (xs : List PyData) (u : Option Wv), notBrw (some u) = true → RowS m xs → lo + k ≤ m →
    ∃ (n' : Int) (xs' : List PyData) (u' : Option Wv), RowS m xs' ∧ forGo (tgName 4) lp_law_near_1 (rngD (lo : Int) k) [some (.brw [.int n]), some (.d R), some (.d (.int w)), some (.own xs), u] = .nx [some (.brw [.int n']), some (.d R), some (.d (.int w)), some (.own xs'), u']
  | 0, lo, n, xs, u, hu, h, _ => ⟨n, xs, u, h, rfl⟩
  | k + 1, lo, n, xs, u, hu, h, hk => by
    have c3 := fun (n : Int) (r : En) => cb0 (n := n) (s := 3) (r := r) (by decide)
    by_cases z : n % 3 = 0
    · obtain ⟨n1, x, hx, hv⟩ := value_ok (n / 3) w
      have cb := fun (r : En) => cbB (r := r) (k := 2) rfl hv (.inl rfl)
      have h2 : RowS m (xs.set lo x) := ⟨by rw [List.length_set, h.len], fun y hy => by
        rcases List.mem_or_eq_of_mem_set hy with q | q
        · exact h.v y q
        · rw [q]; exact hx⟩
      obtain ⟨n', xs', u', h3, h4⟩ := near_loop R w k (lo + 1) n1 (xs.set lo x) (some (.d (.int (lo : Int)))) rfl h2 (by omega)
      refine ⟨n', xs', u', h3, ?_⟩
      have ix := q_ixn (n := xs.length) (k := lo) (by rw [h.len]; omega)
      rw [z_rn1]
      unfold lp_law_near_1
      unfold lp_law_near_1 at h4
      simp only [z_ob, z_om, z_b1, z_b2, z_be1, z_be2, z_bs1, z_bs2, z_bs3, z_bl1, z_bl2, z_bc1, z_bc2, z_cr1, z_cr2, z_or, z_os, z_oo, z_ol, z_oB, z_name, z_sn1, z_sn2, z_sn3, z_sn5, z_sn6, z_sn7, z_sn8, z_sn4, z_rs1, z_rs2, z_rs3, z_rs4, z_sr1, z_sr2, z_sr3, z_rss0, z_rss1, z_es, z_es1, z_es2, z_est, z_e1, z_e2, z_e4, z_se1, z_se2, z_se3, z_e5, z_nb4, z_nb5, z_nb6, z_a5, z_a6, z_a7, z_nb0, z_nb1, z_nb2, z_nb3, z_a1, z_a2, z_a3, z_a4, z_c, z_u2, z_u1, z_un, z_ev0, z_ev1, z_tup, z_lst, z_dt0, z_dt1, z_d1, z_isB, z_bt, z_bf, z_st, z_sf, z_and, z_dor, z_ite, z_not, z_no, z_chain, z_isi, z_iw1, z_iw2, z_iw3, z_isN, z_notN, z_nw1, z_nw2, z_mul, z_mw1, z_mw2, z_sl, z_po0, z_po1, z_io, z_oa, z_so1, z_so2, z_up, z_su1, z_su2, z_mut, z_mo, z_mt, z_meth, z_seq, z_next, z_asg, z_if, z_ret, z_rt, z_m1, z_m2, z_m3, z_m5, z_m6, z_m7, z_sm3, z_sm4, z_f5, z_f6, z_f7, z_k5, z_r4, z_r5, z_r6, z_m4, z_sm1, z_sm2, z_drop, z_raise, z_has, z_ho, z_seti, z_sI, z_fn, z_ent, z_f1, z_f2, z_f3, z_f4, z_k0, z_k1, z_k2, z_k3, z_k4, z_call, z_r1, z_r2, z_r3, z_callB, z_for, z_bls1, z_outR, z_fg0, z_fg1, z_lp1, z_lp2, z_lp3, z_it1, z_it2, z_rn0, z_asgT, z_tt, z_ta0, z_ta1, z_par, z_two, z_setW, List.getElem?_cons_zero, List.getElem?_cons_succ, List.set_cons_zero, List.set_cons_succ, List.map_cons, List.map_nil, List.length_cons, List.length_nil, List.cons_append, List.nil_append, List.replicate, Nat.zero_add, Nat.reduceAdd, Nat.reduceSub, if_true, List.append_nil, q_addI, q_sub, q_neg, q_cmp, q_ixL, q_ixT, q_lenL, q_lenT, q_int, q_max, q_min, q_tupL, q_lstT, q_isB, q_slL, q_slT, q_eqS, q_neS, q_tn, q_at0, q_rev, q_isNB, q_tupT, q_lstL, hu, c3, q_eqI, decide_eq_true z, cb, ix]
      exact h4
    · obtain ⟨n', xs', u', h3, h4⟩ := near_loop R w k (lo + 1) (n / 3) xs (some (.d (.int (lo : Int)))) rfl h (by omega)
      refine ⟨n', xs', u', h3, ?_⟩
      rw [z_rn1]
      unfold lp_law_near_1
      unfold lp_law_near_1 at h4
      simp only [z_ob, z_om, z_b1, z_b2, z_be1, z_be2, z_bs1, z_bs2, z_bs3, z_bl1, z_bl2, z_bc1, z_bc2, z_cr1, z_cr2, z_or, z_os, z_oo, z_ol, z_oB, z_name, z_sn1, z_sn2, z_sn3, z_sn5, z_sn6, z_sn7, z_sn8, z_sn4, z_rs1, z_rs2, z_rs3, z_rs4, z_sr1, z_sr2, z_sr3, z_rss0, z_rss1, z_es, z_es1, z_es2, z_est, z_e1, z_e2, z_e4, z_se1, z_se2, z_se3, z_e5, z_nb4, z_nb5, z_nb6, z_a5, z_a6, z_a7, z_nb0, z_nb1, z_nb2, z_nb3, z_a1, z_a2, z_a3, z_a4, z_c, z_u2, z_u1, z_un, z_ev0, z_ev1, z_tup, z_lst, z_dt0, z_dt1, z_d1, z_isB, z_bt, z_bf, z_st, z_sf, z_and, z_dor, z_ite, z_not, z_no, z_chain, z_isi, z_iw1, z_iw2, z_iw3, z_isN, z_notN, z_nw1, z_nw2, z_mul, z_mw1, z_mw2, z_sl, z_po0, z_po1, z_io, z_oa, z_so1, z_so2, z_up, z_su1, z_su2, z_mut, z_mo, z_mt, z_meth, z_seq, z_next, z_asg, z_if, z_ret, z_rt, z_m1, z_m2, z_m3, z_m5, z_m6, z_m7, z_sm3, z_sm4, z_f5, z_f6, z_f7, z_k5, z_r4, z_r5, z_r6, z_m4, z_sm1, z_sm2, z_drop, z_raise, z_has, z_ho, z_seti, z_sI, z_fn, z_ent, z_f1, z_f2, z_f3, z_f4, z_k0, z_k1, z_k2, z_k3, z_k4, z_call, z_r1, z_r2, z_r3, z_callB, z_for, z_bls1, z_outR, z_fg0, z_fg1, z_lp1, z_lp2, z_lp3, z_it1, z_it2, z_rn0, z_asgT, z_tt, z_ta0, z_ta1, z_par, z_two, z_setW, List.getElem?_cons_zero, List.getElem?_cons_succ, List.set_cons_zero, List.set_cons_succ, List.map_cons, List.map_nil, List.length_cons, List.length_nil, List.cons_append, List.nil_append, List.replicate, Nat.zero_add, Nat.reduceAdd, Nat.reduceSub, if_true, List.append_nil, q_addI, q_sub, q_neg, q_cmp, q_ixL, q_ixT, q_lenL, q_lenT, q_int, q_max, q_min, q_tupL, q_lstT, q_isB, q_slL, q_slT, q_eqS, q_neS, q_tn, q_at0, q_rev, q_isNB, q_tupT, q_lstL, hu, c3, q_eqI, decide_eq_false z]
      exact h4
theorem near_ok (n w : Int) {m : Nat} {xs : List PyData} (h : RowS m xs) (m6 : m ≤ 6) : ∃ (n' : Int) (ys : List PyData), RowS m ys ∧ fn__law_near [.brw [.int n], .d (.tuple xs), .d (.int w)] = .ok (.d (.tuple ys)) [.brw [.int n'], .d (.tuple xs), .d (.int w)] := by
  obtain ⟨n', ys, u', h1, h2⟩ := near_loop (.tuple xs) w m 0 n xs none rfl h (by omega)
  have ev : evs [dUn opLen [dName 1]] [some (.brw [.int n]), some (.d (.tuple xs)), some (.d (.int w)), some (.own xs), none] = .ok [.d (.int (m : Int))] [some (.brw [.int n]), some (.d (.tuple xs)), some (.d (.int w)), some (.own xs), none] := by
    simp only [z_ob, z_om, z_b1, z_b2, z_be1, z_be2, z_bs1, z_bs2, z_bs3, z_bl1, z_bl2, z_bc1, z_bc2, z_cr1, z_cr2, z_or, z_os, z_oo, z_ol, z_oB, z_name, z_sn1, z_sn2, z_sn3, z_sn5, z_sn6, z_sn7, z_sn8, z_sn4, z_rs1, z_rs2, z_rs3, z_rs4, z_sr1, z_sr2, z_sr3, z_rss0, z_rss1, z_es, z_es1, z_es2, z_est, z_e1, z_e2, z_e4, z_se1, z_se2, z_se3, z_e5, z_nb4, z_nb5, z_nb6, z_a5, z_a6, z_a7, z_nb0, z_nb1, z_nb2, z_nb3, z_a1, z_a2, z_a3, z_a4, z_c, z_u2, z_u1, z_un, z_ev0, z_ev1, z_tup, z_lst, z_dt0, z_dt1, z_d1, z_isB, z_bt, z_bf, z_st, z_sf, z_and, z_dor, z_ite, z_not, z_no, z_chain, z_isi, z_iw1, z_iw2, z_iw3, z_isN, z_notN, z_nw1, z_nw2, z_mul, z_mw1, z_mw2, z_sl, z_po0, z_po1, z_io, z_oa, z_so1, z_so2, z_up, z_su1, z_su2, z_mut, z_mo, z_mt, z_meth, z_seq, z_next, z_asg, z_if, z_ret, z_rt, z_m1, z_m2, z_m3, z_m5, z_m6, z_m7, z_sm3, z_sm4, z_f5, z_f6, z_f7, z_k5, z_r4, z_r5, z_r6, z_m4, z_sm1, z_sm2, z_drop, z_raise, z_has, z_ho, z_seti, z_sI, z_fn, z_ent, z_f1, z_f2, z_f3, z_f4, z_k0, z_k1, z_k2, z_k3, z_k4, z_call, z_r1, z_r2, z_r3, z_callB, z_for, z_bls1, z_outR, z_fg0, z_fg1, z_lp1, z_lp2, z_lp3, z_it1, z_it2, z_rn0, z_asgT, z_tt, z_ta0, z_ta1, z_par, z_two, z_setW, List.getElem?_cons_zero, List.getElem?_cons_succ, List.set_cons_zero, List.set_cons_succ, List.map_cons, List.map_nil, List.length_cons, List.length_nil, List.cons_append, List.nil_append, List.replicate, Nat.zero_add, Nat.reduceAdd, Nat.reduceSub, if_true, List.append_nil, q_addI, q_sub, q_neg, q_cmp, q_ixL, q_ixT, q_lenL, q_lenT, q_int, q_max, q_min, q_tupL, q_lstT, q_isB, q_slL, q_slT, q_eqS, q_neS, q_tn, q_at0, q_rev, q_isNB, q_tupT, q_lstL, h.len]
  have run := (for_R (tg := tgName 4) (s := lp_law_near_1) ev (rng_nat (by omega : m ≤ 1000))).trans h2
  refine ⟨n', ys, h1, ?_⟩
  unfold fn__law_near dn__law_near
  simp only [z_ob, z_om, z_b1, z_b2, z_be1, z_be2, z_bs1, z_bs2, z_bs3, z_bl1, z_bl2, z_bc1, z_bc2, z_cr1, z_cr2, z_or, z_os, z_oo, z_ol, z_oB, z_name, z_sn1, z_sn2, z_sn3, z_sn5, z_sn6, z_sn7, z_sn8, z_sn4, z_rs1, z_rs2, z_rs3, z_rs4, z_sr1, z_sr2, z_sr3, z_rss0, z_rss1, z_es, z_es1, z_es2, z_est, z_e1, z_e2, z_e4, z_se1, z_se2, z_se3, z_e5, z_nb4, z_nb5, z_nb6, z_a5, z_a6, z_a7, z_nb0, z_nb1, z_nb2, z_nb3, z_a1, z_a2, z_a3, z_a4, z_c, z_u2, z_u1, z_un, z_ev0, z_ev1, z_tup, z_lst, z_dt0, z_dt1, z_d1, z_isB, z_bt, z_bf, z_st, z_sf, z_and, z_dor, z_ite, z_not, z_no, z_chain, z_isi, z_iw1, z_iw2, z_iw3, z_isN, z_notN, z_nw1, z_nw2, z_mul, z_mw1, z_mw2, z_sl, z_po0, z_po1, z_io, z_oa, z_so1, z_so2, z_up, z_su1, z_su2, z_mut, z_mo, z_mt, z_meth, z_seq, z_next, z_asg, z_if, z_ret, z_rt, z_m1, z_m2, z_m3, z_m5, z_m6, z_m7, z_sm3, z_sm4, z_f5, z_f6, z_f7, z_k5, z_r4, z_r5, z_r6, z_m4, z_sm1, z_sm2, z_drop, z_raise, z_has, z_ho, z_seti, z_sI, z_fn, z_ent, z_f1, z_f2, z_f3, z_f4, z_k0, z_k1, z_k2, z_k3, z_k4, z_call, z_r1, z_r2, z_r3, z_callB, z_for, z_bls1, z_outR, z_fg0, z_fg1, z_lp1, z_lp2, z_lp3, z_it1, z_it2, z_rn0, z_asgT, z_tt, z_ta0, z_ta1, z_par, z_two, z_setW, List.getElem?_cons_zero, List.getElem?_cons_succ, List.set_cons_zero, List.set_cons_succ, List.map_cons, List.map_nil, List.length_cons, List.length_nil, List.cons_append, List.nil_append, List.replicate, Nat.zero_add, Nat.reduceAdd, Nat.reduceSub, if_true, List.append_nil, q_addI, q_sub, q_neg, q_cmp, q_ixL, q_ixT, q_lenL, q_lenT, q_int, q_max, q_min, q_tupL, q_lstT, q_isB, q_slL, q_slT, q_eqS, q_neS, q_tn, q_at0, q_rev, q_isNB, q_tupT, q_lstL, run]
theorem row_ok' (n w : Int) {cs : List PyData} (l6 : cs.length ≤ 6) : ∃ (n' : Int) (xs : List PyData), RowS cs.length xs ∧ fn__law_row [.brw [.int n], .d (.list cs), .d (.int w)] = .ok (.d (.tuple xs)) [.brw [.int n'], .d (.list cs), .d (.int w)] := by
  obtain ⟨n', xs, a, b, c⟩ := row_ok n w cs l6
  exact ⟨n', xs, ⟨a, b⟩, c⟩
end Vf.Law
/-! Drawn rules are rules. -/
namespace Vf.Law
open PySem PySem.Spec L2
theorem tv_val : ∀ x ∈ TV, valB x = true := by
  unfold TV
  intro x h
  simp only [List.mem_cons, List.not_mem_nil, or_false] at h
  rcases h with h | h | h | h | h | h | h | h | h | h | h <;> (rw [h]; rfl)
/-- a value as a key -/
def valK : PyData → Leaf
  | .int i => .num i
  | _ => .none
theorem valK_inj {x y : PyData} (hx : valB x = true) (hy : valB y = true) (h : valK x = valK y) : x = y := by
  cases x <;> cases hx <;> cases y <;> cases hy <;> first | rfl | (injection h with h; rw [h]) | cases h
theorem vals_leafs : ∀ {xs : List PyData}, (∀ x ∈ xs, valB x = true) → leafs xs = some (xs.map valK)
  | [], _ => rfl
  | x :: xs, h => by
    have hx := h x List.mem_cons_self
    have ih := vals_leafs fun y hy => h y (List.mem_cons_of_mem _ hy)
    have e : leafOf x = some (valK x) := by cases x <;> cases hx <;> rfl
    show (leafOf x).bind _ = _
    rw [e]
    show (leafs xs).bind _ = _
    rw [ih]
    rfl
theorem two_at1 {a b : PyData} : atI [a, b] 1 = some b := q_at (n := 1) rfl
theorem branches_good {bs : List (PyData × PyData)} (few : bs.length ≤ 1000) (hv : ∀ b ∈ bs, valB b.1 = true) (nd : (bs.map (·.1)).Nodup) : fn_has_branches_form [.d (.list (bs.map tD2))] = .ok (.d (.bool true)) [.d (.list (bs.map tD2))] := by
  have at_ : aList (.list (bs.map tD2)) = some true := rfl
  have len : (bs.map tD2).length = bs.length := List.length_map ..
  have lc : dLc (dName 0) [1] (tgName 1) (dC (.bool true)) el_has_branches_form_1 [some (.d (.list (bs.map tD2))), none] = .ok (.own ((bs.map tD2).map fun _ => .bool true)) [some (.d (.list (bs.map tD2))), none] := by
    refine dlc_pure (src := .list (bs.map tD2)) rfl rfl rfl (by omega) fun x hx => ?_
    obtain ⟨b, hb, rfl⟩ := List.mem_map.mp hx
    have hvb := hv b hb
    have cv := call_val (k := 1) rfl (value_is (val_nd hvb))
    rw [hvb] at cv
    have at2 : aTuple (tD2 b) = some true := rfl
    have two : decide (((2 : Nat) : Int) = 2) = true := rfl
    unfold el_has_branches_form_1
    simp only [z_ob, z_om, z_b1, z_b2, z_be1, z_be2, z_bs1, z_bs2, z_bs3, z_bl1, z_bl2, z_bc1, z_bc2, z_cr1, z_cr2, z_or, z_os, z_oo, z_ol, z_oB, z_name, z_sn1, z_sn2, z_sn3, z_sn5, z_sn6, z_sn7, z_sn8, z_sn4, z_rs1, z_rs2, z_rs3, z_rs4, z_sr1, z_sr2, z_sr3, z_rss0, z_rss1, z_es, z_es1, z_es2, z_est, z_e1, z_e2, z_e4, z_se1, z_se2, z_se3, z_e5, z_nb4, z_nb5, z_nb6, z_a5, z_a6, z_a7, z_nb0, z_nb1, z_nb2, z_nb3, z_a1, z_a2, z_a3, z_a4, z_c, z_u2, z_u1, z_un, z_ev0, z_ev1, z_tup, z_lst, z_dt0, z_dt1, z_d1, z_isB, z_bt, z_bf, z_st, z_sf, z_and, z_dor, z_ite, z_not, z_no, z_chain, z_isi, z_iw1, z_iw2, z_iw3, z_isN, z_notN, z_nw1, z_nw2, z_mul, z_mw1, z_mw2, z_sl, z_po0, z_po1, z_io, z_oa, z_so1, z_so2, z_up, z_su1, z_su2, z_mut, z_mo, z_mt, z_meth, z_seq, z_next, z_asg, z_if, z_ret, z_rt, z_m1, z_m2, z_m3, z_m5, z_m6, z_m7, z_sm3, z_sm4, z_f5, z_f6, z_f7, z_k5, z_r4, z_r5, z_r6, z_m4, z_sm1, z_sm2, z_drop, z_raise, z_has, z_ho, z_seti, z_sI, z_fn, z_ent, z_f1, z_f2, z_f3, z_f4, z_k0, z_k1, z_k2, z_k3, z_k4, z_call, z_r1, z_r2, z_r3, z_callB, z_for, z_bls1, z_outR, z_fg0, z_fg1, z_lp1, z_lp2, z_lp3, z_it1, z_it2, z_rn0, z_asgT, z_tt, z_ta0, z_ta1, z_par, z_two, z_setW, List.getElem?_cons_zero, List.getElem?_cons_succ, List.set_cons_zero, List.set_cons_succ, List.map_cons, List.map_nil, List.length_cons, List.length_nil, List.cons_append, List.nil_append, List.replicate, Nat.zero_add, Nat.reduceAdd, Nat.reduceSub, if_true, List.append_nil, q_addI, q_sub, q_neg, q_cmp, q_ixL, q_ixT, q_lenL, q_lenT, q_int, q_max, q_min, q_tupL, q_lstT, q_isB, q_slL, q_slT, q_eqS, q_neS, q_tn, q_at0, q_rev, q_isNB, q_tupT, q_lstL, at2, q_eqI, two, cv]
  have oa : opAll [.list ((bs.map tD2).map fun _ => .bool true)] = some (.d (.bool true)) := by
    rw [q_all (bools_map (fun _ => true) _), List.all_map]
    congr 3
    exact List.all_eq_true.mpr fun _ _ => rfl
  have lc2 : dLc (dName 0) [1] (tgName 1) (dC (.bool true)) el_has_branches_form_2 [some (.d (.list (bs.map tD2))), none] = .ok (.own ((bs.map tD2).map colD)) [some (.d (.list (bs.map tD2))), none] := by
    refine dlc_pure (src := .list (bs.map tD2)) rfl rfl rfl (by omega) fun x hx => ?_
    obtain ⟨b, hb, rfl⟩ := List.mem_map.mp hx
    unfold el_has_branches_form_2
    simp only [z_ob, z_om, z_b1, z_b2, z_be1, z_be2, z_bs1, z_bs2, z_bs3, z_bl1, z_bl2, z_bc1, z_bc2, z_cr1, z_cr2, z_or, z_os, z_oo, z_ol, z_oB, z_name, z_sn1, z_sn2, z_sn3, z_sn5, z_sn6, z_sn7, z_sn8, z_sn4, z_rs1, z_rs2, z_rs3, z_rs4, z_sr1, z_sr2, z_sr3, z_rss0, z_rss1, z_es, z_es1, z_es2, z_est, z_e1, z_e2, z_e4, z_se1, z_se2, z_se3, z_e5, z_nb4, z_nb5, z_nb6, z_a5, z_a6, z_a7, z_nb0, z_nb1, z_nb2, z_nb3, z_a1, z_a2, z_a3, z_a4, z_c, z_u2, z_u1, z_un, z_ev0, z_ev1, z_tup, z_lst, z_dt0, z_dt1, z_d1, z_isB, z_bt, z_bf, z_st, z_sf, z_and, z_dor, z_ite, z_not, z_no, z_chain, z_isi, z_iw1, z_iw2, z_iw3, z_isN, z_notN, z_nw1, z_nw2, z_mul, z_mw1, z_mw2, z_sl, z_po0, z_po1, z_io, z_oa, z_so1, z_so2, z_up, z_su1, z_su2, z_mut, z_mo, z_mt, z_meth, z_seq, z_next, z_asg, z_if, z_ret, z_rt, z_m1, z_m2, z_m3, z_m5, z_m6, z_m7, z_sm3, z_sm4, z_f5, z_f6, z_f7, z_k5, z_r4, z_r5, z_r6, z_m4, z_sm1, z_sm2, z_drop, z_raise, z_has, z_ho, z_seti, z_sI, z_fn, z_ent, z_f1, z_f2, z_f3, z_f4, z_k0, z_k1, z_k2, z_k3, z_k4, z_call, z_r1, z_r2, z_r3, z_callB, z_for, z_bls1, z_outR, z_fg0, z_fg1, z_lp1, z_lp2, z_lp3, z_it1, z_it2, z_rn0, z_asgT, z_tt, z_ta0, z_ta1, z_par, z_two, z_setW, List.getElem?_cons_zero, List.getElem?_cons_succ, List.set_cons_zero, List.set_cons_succ, List.map_cons, List.map_nil, List.length_cons, List.length_nil, List.cons_append, List.nil_append, List.replicate, Nat.zero_add, Nat.reduceAdd, Nat.reduceSub, if_true, List.append_nil, q_addI, q_sub, q_neg, q_cmp, q_ixL, q_ixT, q_lenL, q_lenT, q_int, q_max, q_min, q_tupL, q_lstT, q_isB, q_slL, q_slT, q_eqS, q_neS, q_tn, q_at0, q_rev, q_isNB, q_tupT, q_lstL]
    rfl
  have e1 : (bs.map tD2).map colD = bs.map (·.1) := by
    rw [List.map_map]
    rfl
  rw [e1] at lc2
  have lk := q_lenK (vals_leafs (xs := bs.map (·.1)) fun x hx => by
    obtain ⟨b, hb, rfl⟩ := List.mem_map.mp hx
    exact hv b hb) (by rw [List.length_map]; omega)
  have nk : ((bs.map (·.1)).map valK).Nodup := by
    refine List.pairwise_map.mpr (List.Pairwise.imp_of_mem (fun {a b} ha hb hab z => hab ?_) nd)
    obtain ⟨p, hp, rfl⟩ := List.mem_map.mp ha
    obtain ⟨q, hq, rfl⟩ := List.mem_map.mp hb
    exact valK_inj (hv p hp) (hv q hq) z
  have dd : decide ((((kSet ((bs.map (·.1)).map valK)).length : Nat) : Int) = ((bs.length : Nat) : Int)) = true := decide_eq_true (by
    rw [kSet_full.mpr nk, List.length_map, List.length_map])
  unfold fn_has_branches_form dn_has_branches_form
  simp only [z_ob, z_om, z_b1, z_b2, z_be1, z_be2, z_bs1, z_bs2, z_bs3, z_bl1, z_bl2, z_bc1, z_bc2, z_cr1, z_cr2, z_or, z_os, z_oo, z_ol, z_oB, z_name, z_sn1, z_sn2, z_sn3, z_sn5, z_sn6, z_sn7, z_sn8, z_sn4, z_rs1, z_rs2, z_rs3, z_rs4, z_sr1, z_sr2, z_sr3, z_rss0, z_rss1, z_es, z_es1, z_es2, z_est, z_e1, z_e2, z_e4, z_se1, z_se2, z_se3, z_e5, z_nb4, z_nb5, z_nb6, z_a5, z_a6, z_a7, z_nb0, z_nb1, z_nb2, z_nb3, z_a1, z_a2, z_a3, z_a4, z_c, z_u2, z_u1, z_un, z_ev0, z_ev1, z_tup, z_lst, z_dt0, z_dt1, z_d1, z_isB, z_bt, z_bf, z_st, z_sf, z_and, z_dor, z_ite, z_not, z_no, z_chain, z_isi, z_iw1, z_iw2, z_iw3, z_isN, z_notN, z_nw1, z_nw2, z_mul, z_mw1, z_mw2, z_sl, z_po0, z_po1, z_io, z_oa, z_so1, z_so2, z_up, z_su1, z_su2, z_mut, z_mo, z_mt, z_meth, z_seq, z_next, z_asg, z_if, z_ret, z_rt, z_m1, z_m2, z_m3, z_m5, z_m6, z_m7, z_sm3, z_sm4, z_f5, z_f6, z_f7, z_k5, z_r4, z_r5, z_r6, z_m4, z_sm1, z_sm2, z_drop, z_raise, z_has, z_ho, z_seti, z_sI, z_fn, z_ent, z_f1, z_f2, z_f3, z_f4, z_k0, z_k1, z_k2, z_k3, z_k4, z_call, z_r1, z_r2, z_r3, z_callB, z_for, z_bls1, z_outR, z_fg0, z_fg1, z_lp1, z_lp2, z_lp3, z_it1, z_it2, z_rn0, z_asgT, z_tt, z_ta0, z_ta1, z_par, z_two, z_setW, List.getElem?_cons_zero, List.getElem?_cons_succ, List.set_cons_zero, List.set_cons_succ, List.map_cons, List.map_nil, List.length_cons, List.length_nil, List.cons_append, List.nil_append, List.replicate, Nat.zero_add, Nat.reduceAdd, Nat.reduceSub, if_true, List.append_nil, q_addI, q_sub, q_neg, q_cmp, q_ixL, q_ixT, q_lenL, q_lenT, q_int, q_max, q_min, q_tupL, q_lstT, q_isB, q_slL, q_slT, q_eqS, q_neS, q_tn, q_at0, q_rev, q_isNB, q_tupT, q_lstL, at_, lc, oa, lc2, lk, len, q_eqI, dd, Bool.not_true]
theorem in_tup {us : List Nat} (h : ∀ c ∈ us, c < 10) (few : us.length ≤ 6) {c : Nat} (hc : c < 10) : opIn (nI c) (.tuple (nL us)) = some (.d (.bool (decide (c ∈ us)))) := by
  have sh : SeqAt.shaped (.tuple (nL us)) = true := (nice_tup (n := 6) (ds := nL us) (k := 0) (L := 2) (fun x hx => by
    obtain ⟨d, hd, rfl⟩ := List.mem_map.mp hx
    exact small_nice d (h d hd)) (by rw [nL_len]; exact few)).shaped (by decide)
  have e : inD (nI c) (.tuple (nL us)) = some (decide (c ∈ us)) := by
    show (if (SeqAt.shaped (nI c) && SeqAt.shaped (.tuple (nL us))) = true then some ((nL us).any fun z => PyData.eqv z (nI c)) else none) = _
    rw [(small_nice c hc).shaped (by decide), sh, any_nat]
    rfl
  show (inD _ _).map _ = _
  rw [e]
  rfl
theorem pair_eq (c : Nat) (o : Str) : sD (c, o) = .tuple [nI c, .str o] := rfl
theorem tree_below_good {cs : List PyData} (hc : Cols cs) (l : 1 ≤ cs.length ∧ cs.length ≤ 6) : ∀ (d f : Nat) (us : List Nat) (t : PyData), d < f → TreeS cs d us t → (∀ c ∈ us, c < 10) → us.length + d ≤ 6 →
    fn_is_tree_below f [.d (.list cs), .d t, .d (.tuple (nL us))] = .ok (.d (.bool true)) [.d (.list cs), .d t, .d (.tuple (nL us))]
  | d, 0, us, t, h, _, _, _ => absurd h (Nat.not_lt_zero _)
  | 0, f + 1, us, t, _, ht, _, _ => by
    cases ht
    rfl
  | d + 1, f + 1, us, t, hf, ht, hu, fu => by
    rcases ht with rfl | ⟨c, o, bs, r, rfl, st, nu, few, nd, hb, hr⟩
    · rfl
    · have lt := st.lt
      have hu2 : ∀ x ∈ us ++ [c], x < 10 := fun x hx => by
        rcases List.mem_append.mp hx with z | z
        · exact hu x z
        · rw [List.mem_singleton.mp z]; omega
      have fu2 : (us ++ [c]).length + d ≤ 6 := by rw [List.length_append]; simp only [List.length_cons, List.length_nil]; omega
      have at_ : ∀ xs, aTuple (.tuple xs) = some true := fun _ => rfl
      have four : decide (((4 : Nat) : Int) = 4) = true := rfl
      have in0 : ∀ xs, isNone (.tuple xs) = false := fun _ => rfl
      have l2 : ∀ w, lim 2 w = some w := fun w => z_lim (by decide)
      have l1' : ∀ w, lim 1 w = some w := fun w => z_lim (by decide)
      have cs1 := call_val (k := 2) rfl (step_is hc l ((step_nice l.2 st).lite.mono (by decide)))
      rw [step_good st] at cs1
      have ci := in_tup hu (by omega) (c := c) (by omega)
      rw [decide_eq_false nu] at ci
      have cb := call_val (k := 1) rfl (branches_good (bs := bs) (by omega) (fun b h => tv_val _ (hb b h).1) nd)
      have ad : opAdd (.tuple (nL us)) (.tuple [nI c]) = some (.d (.tuple (nL (us ++ [c])))) := by
        rw [q_addT (by rw [nL_len]; simp only [List.length_cons, List.length_nil]; omega), nL_one, nL_app]
      obtain ⟨E, hE⟩ : ∃ E : En, E = [some (.d (.list cs)), some (.d (nodeD c o bs r)), some (.d (.tuple (nL us))), some (.d (nI c)), some (.d (.str o)), some (.d (.list (bs.map tD2))), some (.d r), some (.d (.tuple (nL (us ++ [c])))), none, none, none] := ⟨_, rfl⟩
      have lc1 : dLc (dName 5) [9] (tgName 9) (dC (.bool true)) el_is_tree_below_1 E = .ok (.own (bs.map (·.2))) E := by
        have := dlc_pure (i := 9) (f := dName 5) (el := el_is_tree_below_1) (e := E) (src := .list (bs.map tD2)) (xs := bs.map tD2) (g := fun x => match x with | .tuple [_, y] => y | _ => .none) (by rw [hE]; rfl) rfl (by rw [hE]; rfl) (by rw [List.length_map]; omega) (fun x hx => by
          obtain ⟨b, hb, rfl⟩ := List.mem_map.mp hx
          rw [hE]
          unfold el_is_tree_below_1
          simp only [z_ob, z_om, z_b1, z_b2, z_be1, z_be2, z_bs1, z_bs2, z_bs3, z_bl1, z_bl2, z_bc1, z_bc2, z_cr1, z_cr2, z_or, z_os, z_oo, z_ol, z_oB, z_name, z_sn1, z_sn2, z_sn3, z_sn5, z_sn6, z_sn7, z_sn8, z_sn4, z_rs1, z_rs2, z_rs3, z_rs4, z_sr1, z_sr2, z_sr3, z_rss0, z_rss1, z_es, z_es1, z_es2, z_est, z_e1, z_e2, z_e4, z_se1, z_se2, z_se3, z_e5, z_nb4, z_nb5, z_nb6, z_a5, z_a6, z_a7, z_nb0, z_nb1, z_nb2, z_nb3, z_a1, z_a2, z_a3, z_a4, z_c, z_u2, z_u1, z_un, z_ev0, z_ev1, z_tup, z_lst, z_dt0, z_dt1, z_d1, z_isB, z_bt, z_bf, z_st, z_sf, z_and, z_dor, z_ite, z_not, z_no, z_chain, z_isi, z_iw1, z_iw2, z_iw3, z_isN, z_notN, z_nw1, z_nw2, z_mul, z_mw1, z_mw2, z_sl, z_po0, z_po1, z_io, z_oa, z_so1, z_so2, z_up, z_su1, z_su2, z_mut, z_mo, z_mt, z_meth, z_seq, z_next, z_asg, z_if, z_ret, z_rt, z_m1, z_m2, z_m3, z_m5, z_m6, z_m7, z_sm3, z_sm4, z_f5, z_f6, z_f7, z_k5, z_r4, z_r5, z_r6, z_m4, z_sm1, z_sm2, z_drop, z_raise, z_has, z_ho, z_seti, z_sI, z_fn, z_ent, z_f1, z_f2, z_f3, z_f4, z_k0, z_k1, z_k2, z_k3, z_k4, z_call, z_r1, z_r2, z_r3, z_callB, z_for, z_bls1, z_outR, z_fg0, z_fg1, z_lp1, z_lp2, z_lp3, z_it1, z_it2, z_rn0, z_asgT, z_tt, z_ta0, z_ta1, z_par, z_two, z_setW, List.getElem?_cons_zero, List.getElem?_cons_succ, List.set_cons_zero, List.set_cons_succ, List.map_cons, List.map_nil, List.length_cons, List.length_nil, List.cons_append, List.nil_append, List.replicate, Nat.zero_add, Nat.reduceAdd, Nat.reduceSub, if_true, List.append_nil, q_addI, q_sub, q_neg, q_cmp, q_ixL, q_ixT, q_lenL, q_lenT, q_int, q_max, q_min, q_tupL, q_lstT, q_isB, q_slL, q_slT, q_eqS, q_neS, q_tn, q_at0, q_rev, q_isNB, q_tupT, q_lstL, two_at1])
        rw [this, List.map_map]
        rfl
      have ap : opAdd (.list (bs.map (·.2))) (.list [r]) = some (.own (bs.map (·.2) ++ [r])) := q_addL (by rw [List.length_map]; simp only [List.length_cons, List.length_nil]; omega)
      have lc2 : dLc (dName 8) [10] (tgName 10) (dC (.bool true)) (el_is_tree_below_2 (fn_is_tree_below f)) (E.set 8 (some (.own (bs.map (·.2) ++ [r])))) = .ok (.own ((bs.map (·.2) ++ [r]).map fun _ => .bool true)) (E.set 8 (some (.d (.list (bs.map (·.2) ++ [r]))))) := by
        refine dlc_pure' (i := 10) (src := .list (bs.map (·.2) ++ [r])) (by rw [hE]; rfl) rfl (by rw [hE]; rfl) (by rw [List.length_append, List.length_map]; simp only [List.length_cons, List.length_nil]; omega) fun x hx => ?_
        have tx : TreeS cs d (us ++ [c]) x := by
          rcases List.mem_append.mp hx with z | z
          · obtain ⟨b, h, rfl⟩ := List.mem_map.mp z
            exact (hb b h).2
          · rw [List.mem_singleton.mp z]; exact hr
        have ih := call_val (k := 3) rfl (tree_below_good hc l d f (us ++ [c]) x (by omega) tx hu2 fu2)
        rw [hE]
        unfold el_is_tree_below_2
        simp only [z_ob, z_om, z_b1, z_b2, z_be1, z_be2, z_bs1, z_bs2, z_bs3, z_bl1, z_bl2, z_bc1, z_bc2, z_cr1, z_cr2, z_or, z_os, z_oo, z_ol, z_oB, z_name, z_sn1, z_sn2, z_sn3, z_sn5, z_sn6, z_sn7, z_sn8, z_sn4, z_rs1, z_rs2, z_rs3, z_rs4, z_sr1, z_sr2, z_sr3, z_rss0, z_rss1, z_es, z_es1, z_es2, z_est, z_e1, z_e2, z_e4, z_se1, z_se2, z_se3, z_e5, z_nb4, z_nb5, z_nb6, z_a5, z_a6, z_a7, z_nb0, z_nb1, z_nb2, z_nb3, z_a1, z_a2, z_a3, z_a4, z_c, z_u2, z_u1, z_un, z_ev0, z_ev1, z_tup, z_lst, z_dt0, z_dt1, z_d1, z_isB, z_bt, z_bf, z_st, z_sf, z_and, z_dor, z_ite, z_not, z_no, z_chain, z_isi, z_iw1, z_iw2, z_iw3, z_isN, z_notN, z_nw1, z_nw2, z_mul, z_mw1, z_mw2, z_sl, z_po0, z_po1, z_io, z_oa, z_so1, z_so2, z_up, z_su1, z_su2, z_mut, z_mo, z_mt, z_meth, z_seq, z_next, z_asg, z_if, z_ret, z_rt, z_m1, z_m2, z_m3, z_m5, z_m6, z_m7, z_sm3, z_sm4, z_f5, z_f6, z_f7, z_k5, z_r4, z_r5, z_r6, z_m4, z_sm1, z_sm2, z_drop, z_raise, z_has, z_ho, z_seti, z_sI, z_fn, z_ent, z_f1, z_f2, z_f3, z_f4, z_k0, z_k1, z_k2, z_k3, z_k4, z_call, z_r1, z_r2, z_r3, z_callB, z_for, z_bls1, z_outR, z_fg0, z_fg1, z_lp1, z_lp2, z_lp3, z_it1, z_it2, z_rn0, z_asgT, z_tt, z_ta0, z_ta1, z_par, z_two, z_setW, List.getElem?_cons_zero, List.getElem?_cons_succ, List.set_cons_zero, List.set_cons_succ, List.map_cons, List.map_nil, List.length_cons, List.length_nil, List.cons_append, List.nil_append, List.replicate, Nat.zero_add, Nat.reduceAdd, Nat.reduceSub, if_true, List.append_nil, q_addI, q_sub, q_neg, q_cmp, q_ixL, q_ixT, q_lenL, q_lenT, q_int, q_max, q_min, q_tupL, q_lstT, q_isB, q_slL, q_slT, q_eqS, q_neS, q_tn, q_at0, q_rev, q_isNB, q_tupT, q_lstL, ih]
      have oa : opAll [.list ((bs.map (·.2) ++ [r]).map fun _ => .bool true)] = some (.d (.bool true)) := by
        rw [q_all (bools_map (fun _ => true) _), List.all_map]
        congr 3
        exact List.all_eq_true.mpr fun _ _ => rfl
      rw [hE] at lc1 lc2
      have ap2 : ∀ x : PyData, opAdd (.list (bs.map (·.2))) (.list [x]) = some (.own (bs.map (·.2) ++ [x])) := fun x => q_addL (by rw [List.length_map]; simp only [List.length_cons, List.length_nil]; omega)
      simp only [List.set_cons_zero, List.set_cons_succ] at lc2
      unfold fn_is_tree_below dn_is_tree_below
      unfold nodeD at *
      simp only [z_ob, z_om, z_b1, z_b2, z_be1, z_be2, z_bs1, z_bs2, z_bs3, z_bl1, z_bl2, z_bc1, z_bc2, z_cr1, z_cr2, z_or, z_os, z_oo, z_ol, z_oB, z_name, z_sn1, z_sn2, z_sn3, z_sn5, z_sn6, z_sn7, z_sn8, z_sn4, z_rs1, z_rs2, z_rs3, z_rs4, z_sr1, z_sr2, z_sr3, z_rss0, z_rss1, z_es, z_es1, z_es2, z_est, z_e1, z_e2, z_e4, z_se1, z_se2, z_se3, z_e5, z_nb4, z_nb5, z_nb6, z_a5, z_a6, z_a7, z_nb0, z_nb1, z_nb2, z_nb3, z_a1, z_a2, z_a3, z_a4, z_c, z_u2, z_u1, z_un, z_ev0, z_ev1, z_tup, z_lst, z_dt0, z_dt1, z_d1, z_isB, z_bt, z_bf, z_st, z_sf, z_and, z_dor, z_ite, z_not, z_no, z_chain, z_isi, z_iw1, z_iw2, z_iw3, z_isN, z_notN, z_nw1, z_nw2, z_mul, z_mw1, z_mw2, z_sl, z_po0, z_po1, z_io, z_oa, z_so1, z_so2, z_up, z_su1, z_su2, z_mut, z_mo, z_mt, z_meth, z_seq, z_next, z_asg, z_if, z_ret, z_rt, z_m1, z_m2, z_m3, z_m5, z_m6, z_m7, z_sm3, z_sm4, z_f5, z_f6, z_f7, z_k5, z_r4, z_r5, z_r6, z_m4, z_sm1, z_sm2, z_drop, z_raise, z_has, z_ho, z_seti, z_sI, z_fn, z_ent, z_f1, z_f2, z_f3, z_f4, z_k0, z_k1, z_k2, z_k3, z_k4, z_call, z_r1, z_r2, z_r3, z_callB, z_for, z_bls1, z_outR, z_fg0, z_fg1, z_lp1, z_lp2, z_lp3, z_it1, z_it2, z_rn0, z_asgT, z_tt, z_ta0, z_ta1, z_par, z_two, z_setW, List.getElem?_cons_zero, List.getElem?_cons_succ, List.set_cons_zero, List.set_cons_succ, List.map_cons, List.map_nil, List.length_cons, List.length_nil, List.cons_append, List.nil_append, List.replicate, Nat.zero_add, Nat.reduceAdd, Nat.reduceSub, if_true, List.append_nil, q_addI, q_sub, q_neg, q_cmp, q_ixL, q_ixT, q_lenL, q_lenT, q_int, q_max, q_min, q_tupL, q_lstT, q_isB, q_slL, q_slT, q_eqS, q_neS, q_tn, q_at0, q_rev, q_isNB, q_tupT, q_lstL, at_, in0, q_neI, four, l2, l1', cs1, ci, cb, ad, lc1, ap, lc2, oa, Bool.not_true, Bool.not_false]
theorem is_tree_good {cs : List PyData} (hc : Cols cs) (l : 1 ≤ cs.length ∧ cs.length ≤ 6) {d : Nat} {t : PyData} (ht : TreeS cs d [] t) (d6 : d ≤ 6) : fn_is_tree [.d (.list cs), .d t] = .ok (.d (.bool true)) [.d (.list cs), .d t] := by
  have cc := check_call hc l
  have l0 : ∀ w, lim 0 w = some w := fun w => z_lim (by decide)
  have ct := call_val (k := 3) rfl (tree_below_good hc l d 8 [] t (by omega) ht (fun _ h => nomatch h) (by simpa using d6))
  rw [nL_nil] at ct
  unfold fn_is_tree dn_is_tree
  simp only [z_ob, z_om, z_b1, z_b2, z_be1, z_be2, z_bs1, z_bs2, z_bs3, z_bl1, z_bl2, z_bc1, z_bc2, z_cr1, z_cr2, z_or, z_os, z_oo, z_ol, z_oB, z_name, z_sn1, z_sn2, z_sn3, z_sn5, z_sn6, z_sn7, z_sn8, z_sn4, z_rs1, z_rs2, z_rs3, z_rs4, z_sr1, z_sr2, z_sr3, z_rss0, z_rss1, z_es, z_es1, z_es2, z_est, z_e1, z_e2, z_e4, z_se1, z_se2, z_se3, z_e5, z_nb4, z_nb5, z_nb6, z_a5, z_a6, z_a7, z_nb0, z_nb1, z_nb2, z_nb3, z_a1, z_a2, z_a3, z_a4, z_c, z_u2, z_u1, z_un, z_ev0, z_ev1, z_tup, z_lst, z_dt0, z_dt1, z_d1, z_isB, z_bt, z_bf, z_st, z_sf, z_and, z_dor, z_ite, z_not, z_no, z_chain, z_isi, z_iw1, z_iw2, z_iw3, z_isN, z_notN, z_nw1, z_nw2, z_mul, z_mw1, z_mw2, z_sl, z_po0, z_po1, z_io, z_oa, z_so1, z_so2, z_up, z_su1, z_su2, z_mut, z_mo, z_mt, z_meth, z_seq, z_next, z_asg, z_if, z_ret, z_rt, z_m1, z_m2, z_m3, z_m5, z_m6, z_m7, z_sm3, z_sm4, z_f5, z_f6, z_f7, z_k5, z_r4, z_r5, z_r6, z_m4, z_sm1, z_sm2, z_drop, z_raise, z_has, z_ho, z_seti, z_sI, z_fn, z_ent, z_f1, z_f2, z_f3, z_f4, z_k0, z_k1, z_k2, z_k3, z_k4, z_call, z_r1, z_r2, z_r3, z_callB, z_for, z_bls1, z_outR, z_fg0, z_fg1, z_lp1, z_lp2, z_lp3, z_it1, z_it2, z_rn0, z_asgT, z_tt, z_ta0, z_ta1, z_par, z_two, z_setW, List.getElem?_cons_zero, List.getElem?_cons_succ, List.set_cons_zero, List.set_cons_succ, List.map_cons, List.map_nil, List.length_cons, List.length_nil, List.cons_append, List.nil_append, List.replicate, Nat.zero_add, Nat.reduceAdd, Nat.reduceSub, if_true, List.append_nil, q_addI, q_sub, q_neg, q_cmp, q_ixL, q_ixT, q_lenL, q_lenT, q_int, q_max, q_min, q_tupL, q_lstT, q_isB, q_slL, q_slT, q_eqS, q_neS, q_tn, q_at0, q_rev, q_isNB, q_tupT, q_lstL, cc, l0, ct]
end Vf.Law
/-! How rules compare rows. -/
namespace Vf.Law
open PySem PySem.Spec L2
def firstB (o : Str) : Bool := Txt.endswith o "first"
def upB (o : Str) : Bool := Txt.startswith o "up"
/-- does the order put a ahead of b -/
def aheadB (o : Str) : PyData → PyData → Bool
  | .int i, .int j => decide (decide (i < j) = upB o)
  | .none, _ => firstB o
  | _, _ => !firstB o
theorem ends_is {o : Str} : opEnds (.str o) [.str "first"] = some (.d (.bool (firstB o))) := (rfl)
theorem starts_is {o : Str} : opStarts (.str o) [.str "up"] = some (.d (.bool (upB o))) := (rfl)
theorem in_first : ∀ o ∈ ords, opIn (.str o) (.list [.str "up first", .str "down first"]) = some (.d (.bool (firstB o))) :=
  all_cons (by kernel_rfl) <| all_cons (by kernel_rfl) <| all_cons (by kernel_rfl) <| all_cons (by kernel_rfl) all_nil
theorem in_up : ∀ o ∈ ords, opIn (.str o) (.list [.str "up first", .str "up last"]) = some (.d (.bool (upB o))) :=
  all_cons (by kernel_rfl) <| all_cons (by kernel_rfl) <| all_cons (by kernel_rfl) <| all_cons (by kernel_rfl) all_nil
theorem none_n {i : Int} : isNone (.int i) = false := rfl
theorem none_y : isNone .none = true := rfl
theorem str_is {o : Str} : isStr (.str o) = true := rfl
def sgn (b : Bool) : Int := if b = true then -1 else 1
theorem order_says_ok {o : Str} {a b : PyData} (ha : valB a = true) (hb : valB b = true) : fn_order_says [.d (.str o), .d a, .d b] = .ok (.d (.int (sgn (aheadB o a b)))) [.d (.str o), .d a, .d b] := by
  unfold fn_order_says dn_order_says
  cases a with
  | none =>
    have e : aheadB o .none b = firstB o := by cases b <;> rfl
    rw [e]
    cases q : firstB o <;> simp only [z_ob, z_om, z_b1, z_b2, z_be1, z_be2, z_bs1, z_bs2, z_bs3, z_bl1, z_bl2, z_bc1, z_bc2, z_cr1, z_cr2, z_or, z_os, z_oo, z_ol, z_oB, z_name, z_sn1, z_sn2, z_sn3, z_sn5, z_sn6, z_sn7, z_sn8, z_sn4, z_rs1, z_rs2, z_rs3, z_rs4, z_sr1, z_sr2, z_sr3, z_rss0, z_rss1, z_es, z_es1, z_es2, z_est, z_e1, z_e2, z_e4, z_se1, z_se2, z_se3, z_e5, z_nb4, z_nb5, z_nb6, z_a5, z_a6, z_a7, z_nb0, z_nb1, z_nb2, z_nb3, z_a1, z_a2, z_a3, z_a4, z_c, z_u2, z_u1, z_un, z_ev0, z_ev1, z_tup, z_lst, z_dt0, z_dt1, z_d1, z_isB, z_bt, z_bf, z_st, z_sf, z_and, z_dor, z_ite, z_not, z_no, z_chain, z_isi, z_iw1, z_iw2, z_iw3, z_isN, z_notN, z_nw1, z_nw2, z_mul, z_mw1, z_mw2, z_sl, z_po0, z_po1, z_io, z_oa, z_so1, z_so2, z_up, z_su1, z_su2, z_mut, z_mo, z_mt, z_meth, z_seq, z_next, z_asg, z_if, z_ret, z_rt, z_m1, z_m2, z_m3, z_m5, z_m6, z_m7, z_sm3, z_sm4, z_f5, z_f6, z_f7, z_k5, z_r4, z_r5, z_r6, z_m4, z_sm1, z_sm2, z_drop, z_raise, z_has, z_ho, z_seti, z_sI, z_fn, z_ent, z_f1, z_f2, z_f3, z_f4, z_k0, z_k1, z_k2, z_k3, z_k4, z_call, z_r1, z_r2, z_r3, z_callB, z_for, z_bls1, z_outR, z_fg0, z_fg1, z_lp1, z_lp2, z_lp3, z_it1, z_it2, z_rn0, z_asgT, z_tt, z_ta0, z_ta1, z_par, z_two, z_setW, List.getElem?_cons_zero, List.getElem?_cons_succ, List.set_cons_zero, List.set_cons_succ, List.map_cons, List.map_nil, List.length_cons, List.length_nil, List.cons_append, List.nil_append, List.replicate, Nat.zero_add, Nat.reduceAdd, Nat.reduceSub, if_true, List.append_nil, q_addI, q_sub, q_neg, q_cmp, q_ixL, q_ixT, q_lenL, q_lenT, q_int, q_max, q_min, q_tupL, q_lstT, q_isB, q_slL, q_slT, q_eqS, q_neS, q_tn, q_at0, q_rev, q_isNB, q_tupT, q_lstL, none_y, str_is, ends_is, q, q_eqB, decide_true, show (decide (true = false)) = false from rfl, Option.map_some] <;> rfl
  | int i =>
    cases b with
    | none =>
      have e : aheadB o (.int i) .none = !firstB o := rfl
      rw [e]
      cases q : firstB o <;> simp only [z_ob, z_om, z_b1, z_b2, z_be1, z_be2, z_bs1, z_bs2, z_bs3, z_bl1, z_bl2, z_bc1, z_bc2, z_cr1, z_cr2, z_or, z_os, z_oo, z_ol, z_oB, z_name, z_sn1, z_sn2, z_sn3, z_sn5, z_sn6, z_sn7, z_sn8, z_sn4, z_rs1, z_rs2, z_rs3, z_rs4, z_sr1, z_sr2, z_sr3, z_rss0, z_rss1, z_es, z_es1, z_es2, z_est, z_e1, z_e2, z_e4, z_se1, z_se2, z_se3, z_e5, z_nb4, z_nb5, z_nb6, z_a5, z_a6, z_a7, z_nb0, z_nb1, z_nb2, z_nb3, z_a1, z_a2, z_a3, z_a4, z_c, z_u2, z_u1, z_un, z_ev0, z_ev1, z_tup, z_lst, z_dt0, z_dt1, z_d1, z_isB, z_bt, z_bf, z_st, z_sf, z_and, z_dor, z_ite, z_not, z_no, z_chain, z_isi, z_iw1, z_iw2, z_iw3, z_isN, z_notN, z_nw1, z_nw2, z_mul, z_mw1, z_mw2, z_sl, z_po0, z_po1, z_io, z_oa, z_so1, z_so2, z_up, z_su1, z_su2, z_mut, z_mo, z_mt, z_meth, z_seq, z_next, z_asg, z_if, z_ret, z_rt, z_m1, z_m2, z_m3, z_m5, z_m6, z_m7, z_sm3, z_sm4, z_f5, z_f6, z_f7, z_k5, z_r4, z_r5, z_r6, z_m4, z_sm1, z_sm2, z_drop, z_raise, z_has, z_ho, z_seti, z_sI, z_fn, z_ent, z_f1, z_f2, z_f3, z_f4, z_k0, z_k1, z_k2, z_k3, z_k4, z_call, z_r1, z_r2, z_r3, z_callB, z_for, z_bls1, z_outR, z_fg0, z_fg1, z_lp1, z_lp2, z_lp3, z_it1, z_it2, z_rn0, z_asgT, z_tt, z_ta0, z_ta1, z_par, z_two, z_setW, List.getElem?_cons_zero, List.getElem?_cons_succ, List.set_cons_zero, List.set_cons_succ, List.map_cons, List.map_nil, List.length_cons, List.length_nil, List.cons_append, List.nil_append, List.replicate, Nat.zero_add, Nat.reduceAdd, Nat.reduceSub, if_true, List.append_nil, q_addI, q_sub, q_neg, q_cmp, q_ixL, q_ixT, q_lenL, q_lenT, q_int, q_max, q_min, q_tupL, q_lstT, q_isB, q_slL, q_slT, q_eqS, q_neS, q_tn, q_at0, q_rev, q_isNB, q_tupT, q_lstL, none_y, none_n, str_is, ends_is, q, q_eqB, decide_true, show (decide (false = true)) = false from rfl, Option.map_some] <;> rfl
    | int j =>
      have e : aheadB o (.int i) (.int j) = decide (decide (i < j) = upB o) := rfl
      rw [e]
      cases q : upB o <;> cases q2 : decide (i < j) <;> simp only [z_ob, z_om, z_b1, z_b2, z_be1, z_be2, z_bs1, z_bs2, z_bs3, z_bl1, z_bl2, z_bc1, z_bc2, z_cr1, z_cr2, z_or, z_os, z_oo, z_ol, z_oB, z_name, z_sn1, z_sn2, z_sn3, z_sn5, z_sn6, z_sn7, z_sn8, z_sn4, z_rs1, z_rs2, z_rs3, z_rs4, z_sr1, z_sr2, z_sr3, z_rss0, z_rss1, z_es, z_es1, z_es2, z_est, z_e1, z_e2, z_e4, z_se1, z_se2, z_se3, z_e5, z_nb4, z_nb5, z_nb6, z_a5, z_a6, z_a7, z_nb0, z_nb1, z_nb2, z_nb3, z_a1, z_a2, z_a3, z_a4, z_c, z_u2, z_u1, z_un, z_ev0, z_ev1, z_tup, z_lst, z_dt0, z_dt1, z_d1, z_isB, z_bt, z_bf, z_st, z_sf, z_and, z_dor, z_ite, z_not, z_no, z_chain, z_isi, z_iw1, z_iw2, z_iw3, z_isN, z_notN, z_nw1, z_nw2, z_mul, z_mw1, z_mw2, z_sl, z_po0, z_po1, z_io, z_oa, z_so1, z_so2, z_up, z_su1, z_su2, z_mut, z_mo, z_mt, z_meth, z_seq, z_next, z_asg, z_if, z_ret, z_rt, z_m1, z_m2, z_m3, z_m5, z_m6, z_m7, z_sm3, z_sm4, z_f5, z_f6, z_f7, z_k5, z_r4, z_r5, z_r6, z_m4, z_sm1, z_sm2, z_drop, z_raise, z_has, z_ho, z_seti, z_sI, z_fn, z_ent, z_f1, z_f2, z_f3, z_f4, z_k0, z_k1, z_k2, z_k3, z_k4, z_call, z_r1, z_r2, z_r3, z_callB, z_for, z_bls1, z_outR, z_fg0, z_fg1, z_lp1, z_lp2, z_lp3, z_it1, z_it2, z_rn0, z_asgT, z_tt, z_ta0, z_ta1, z_par, z_two, z_setW, List.getElem?_cons_zero, List.getElem?_cons_succ, List.set_cons_zero, List.set_cons_succ, List.map_cons, List.map_nil, List.length_cons, List.length_nil, List.cons_append, List.nil_append, List.replicate, Nat.zero_add, Nat.reduceAdd, Nat.reduceSub, if_true, List.append_nil, q_addI, q_sub, q_neg, q_cmp, q_ixL, q_ixT, q_lenL, q_lenT, q_int, q_max, q_min, q_tupL, q_lstT, q_isB, q_slL, q_slT, q_eqS, q_neS, q_tn, q_at0, q_rev, q_isNB, q_tupT, q_lstL, none_n, str_is, starts_is, q, q2, q_eqB, decide_true, show (decide (true = false)) = false from rfl, show (decide (false = true)) = false from rfl, Option.map_some] <;> rfl
    | _ => cases hb
  | _ => cases ha
theorem puts_ok {o : Str} (ho : o ∈ ords) {a b : PyData} (ha : valB a = true) (hb : valB b = true) : fn__law_puts [.d (.str o), .d a, .d b] = .ok (.d (.bool (aheadB o a b))) [.d (.str o), .d a, .d b] := by
  have l2 : ∀ w, lim 2 w = some w := fun w => z_lim (by decide)
  have i1 := in_first o ho
  have i2 := in_up o ho
  unfold fn__law_puts dn__law_puts
  cases a with
  | none =>
    have e : aheadB o .none b = firstB o := by cases b <;> rfl
    rw [e]
    cases q : firstB o <;> rw [q] at i1 <;> simp only [z_ob, z_om, z_b1, z_b2, z_be1, z_be2, z_bs1, z_bs2, z_bs3, z_bl1, z_bl2, z_bc1, z_bc2, z_cr1, z_cr2, z_or, z_os, z_oo, z_ol, z_oB, z_name, z_sn1, z_sn2, z_sn3, z_sn5, z_sn6, z_sn7, z_sn8, z_sn4, z_rs1, z_rs2, z_rs3, z_rs4, z_sr1, z_sr2, z_sr3, z_rss0, z_rss1, z_es, z_es1, z_es2, z_est, z_e1, z_e2, z_e4, z_se1, z_se2, z_se3, z_e5, z_nb4, z_nb5, z_nb6, z_a5, z_a6, z_a7, z_nb0, z_nb1, z_nb2, z_nb3, z_a1, z_a2, z_a3, z_a4, z_c, z_u2, z_u1, z_un, z_ev0, z_ev1, z_tup, z_lst, z_dt0, z_dt1, z_d1, z_isB, z_bt, z_bf, z_st, z_sf, z_and, z_dor, z_ite, z_not, z_no, z_chain, z_isi, z_iw1, z_iw2, z_iw3, z_isN, z_notN, z_nw1, z_nw2, z_mul, z_mw1, z_mw2, z_sl, z_po0, z_po1, z_io, z_oa, z_so1, z_so2, z_up, z_su1, z_su2, z_mut, z_mo, z_mt, z_meth, z_seq, z_next, z_asg, z_if, z_ret, z_rt, z_m1, z_m2, z_m3, z_m5, z_m6, z_m7, z_sm3, z_sm4, z_f5, z_f6, z_f7, z_k5, z_r4, z_r5, z_r6, z_m4, z_sm1, z_sm2, z_drop, z_raise, z_has, z_ho, z_seti, z_sI, z_fn, z_ent, z_f1, z_f2, z_f3, z_f4, z_k0, z_k1, z_k2, z_k3, z_k4, z_call, z_r1, z_r2, z_r3, z_callB, z_for, z_bls1, z_outR, z_fg0, z_fg1, z_lp1, z_lp2, z_lp3, z_it1, z_it2, z_rn0, z_asgT, z_tt, z_ta0, z_ta1, z_par, z_two, z_setW, List.getElem?_cons_zero, List.getElem?_cons_succ, List.set_cons_zero, List.set_cons_succ, List.map_cons, List.map_nil, List.length_cons, List.length_nil, List.cons_append, List.nil_append, List.replicate, Nat.zero_add, Nat.reduceAdd, Nat.reduceSub, if_true, List.append_nil, q_addI, q_sub, q_neg, q_cmp, q_ixL, q_ixT, q_lenL, q_lenT, q_int, q_max, q_min, q_tupL, q_lstT, q_isB, q_slL, q_slT, q_eqS, q_neS, q_tn, q_at0, q_rev, q_isNB, q_tupT, q_lstL, l2, none_y, i1, q_eqB, decide_true, show (decide (true = false)) = false from rfl, Option.map_some] <;> rfl
  | int i =>
    cases b with
    | none =>
      have e : aheadB o (.int i) .none = !firstB o := rfl
      rw [e]
      cases q : firstB o <;> rw [q] at i1 <;> simp only [z_ob, z_om, z_b1, z_b2, z_be1, z_be2, z_bs1, z_bs2, z_bs3, z_bl1, z_bl2, z_bc1, z_bc2, z_cr1, z_cr2, z_or, z_os, z_oo, z_ol, z_oB, z_name, z_sn1, z_sn2, z_sn3, z_sn5, z_sn6, z_sn7, z_sn8, z_sn4, z_rs1, z_rs2, z_rs3, z_rs4, z_sr1, z_sr2, z_sr3, z_rss0, z_rss1, z_es, z_es1, z_es2, z_est, z_e1, z_e2, z_e4, z_se1, z_se2, z_se3, z_e5, z_nb4, z_nb5, z_nb6, z_a5, z_a6, z_a7, z_nb0, z_nb1, z_nb2, z_nb3, z_a1, z_a2, z_a3, z_a4, z_c, z_u2, z_u1, z_un, z_ev0, z_ev1, z_tup, z_lst, z_dt0, z_dt1, z_d1, z_isB, z_bt, z_bf, z_st, z_sf, z_and, z_dor, z_ite, z_not, z_no, z_chain, z_isi, z_iw1, z_iw2, z_iw3, z_isN, z_notN, z_nw1, z_nw2, z_mul, z_mw1, z_mw2, z_sl, z_po0, z_po1, z_io, z_oa, z_so1, z_so2, z_up, z_su1, z_su2, z_mut, z_mo, z_mt, z_meth, z_seq, z_next, z_asg, z_if, z_ret, z_rt, z_m1, z_m2, z_m3, z_m5, z_m6, z_m7, z_sm3, z_sm4, z_f5, z_f6, z_f7, z_k5, z_r4, z_r5, z_r6, z_m4, z_sm1, z_sm2, z_drop, z_raise, z_has, z_ho, z_seti, z_sI, z_fn, z_ent, z_f1, z_f2, z_f3, z_f4, z_k0, z_k1, z_k2, z_k3, z_k4, z_call, z_r1, z_r2, z_r3, z_callB, z_for, z_bls1, z_outR, z_fg0, z_fg1, z_lp1, z_lp2, z_lp3, z_it1, z_it2, z_rn0, z_asgT, z_tt, z_ta0, z_ta1, z_par, z_two, z_setW, List.getElem?_cons_zero, List.getElem?_cons_succ, List.set_cons_zero, List.set_cons_succ, List.map_cons, List.map_nil, List.length_cons, List.length_nil, List.cons_append, List.nil_append, List.replicate, Nat.zero_add, Nat.reduceAdd, Nat.reduceSub, if_true, List.append_nil, q_addI, q_sub, q_neg, q_cmp, q_ixL, q_ixT, q_lenL, q_lenT, q_int, q_max, q_min, q_tupL, q_lstT, q_isB, q_slL, q_slT, q_eqS, q_neS, q_tn, q_at0, q_rev, q_isNB, q_tupT, q_lstL, l2, none_y, none_n, i1, q_eqB, decide_true, show (decide (false = true)) = false from rfl, Option.map_some] <;> rfl
    | int j =>
      have e : aheadB o (.int i) (.int j) = decide (decide (i < j) = upB o) := rfl
      rw [e]
      simp only [z_ob, z_om, z_b1, z_b2, z_be1, z_be2, z_bs1, z_bs2, z_bs3, z_bl1, z_bl2, z_bc1, z_bc2, z_cr1, z_cr2, z_or, z_os, z_oo, z_ol, z_oB, z_name, z_sn1, z_sn2, z_sn3, z_sn5, z_sn6, z_sn7, z_sn8, z_sn4, z_rs1, z_rs2, z_rs3, z_rs4, z_sr1, z_sr2, z_sr3, z_rss0, z_rss1, z_es, z_es1, z_es2, z_est, z_e1, z_e2, z_e4, z_se1, z_se2, z_se3, z_e5, z_nb4, z_nb5, z_nb6, z_a5, z_a6, z_a7, z_nb0, z_nb1, z_nb2, z_nb3, z_a1, z_a2, z_a3, z_a4, z_c, z_u2, z_u1, z_un, z_ev0, z_ev1, z_tup, z_lst, z_dt0, z_dt1, z_d1, z_isB, z_bt, z_bf, z_st, z_sf, z_and, z_dor, z_ite, z_not, z_no, z_chain, z_isi, z_iw1, z_iw2, z_iw3, z_isN, z_notN, z_nw1, z_nw2, z_mul, z_mw1, z_mw2, z_sl, z_po0, z_po1, z_io, z_oa, z_so1, z_so2, z_up, z_su1, z_su2, z_mut, z_mo, z_mt, z_meth, z_seq, z_next, z_asg, z_if, z_ret, z_rt, z_m1, z_m2, z_m3, z_m5, z_m6, z_m7, z_sm3, z_sm4, z_f5, z_f6, z_f7, z_k5, z_r4, z_r5, z_r6, z_m4, z_sm1, z_sm2, z_drop, z_raise, z_has, z_ho, z_seti, z_sI, z_fn, z_ent, z_f1, z_f2, z_f3, z_f4, z_k0, z_k1, z_k2, z_k3, z_k4, z_call, z_r1, z_r2, z_r3, z_callB, z_for, z_bls1, z_outR, z_fg0, z_fg1, z_lp1, z_lp2, z_lp3, z_it1, z_it2, z_rn0, z_asgT, z_tt, z_ta0, z_ta1, z_par, z_two, z_setW, List.getElem?_cons_zero, List.getElem?_cons_succ, List.set_cons_zero, List.set_cons_succ, List.map_cons, List.map_nil, List.length_cons, List.length_nil, List.cons_append, List.nil_append, List.replicate, Nat.zero_add, Nat.reduceAdd, Nat.reduceSub, if_true, List.append_nil, q_addI, q_sub, q_neg, q_cmp, q_ixL, q_ixT, q_lenL, q_lenT, q_int, q_max, q_min, q_tupL, q_lstT, q_isB, q_slL, q_slT, q_eqS, q_neS, q_tn, q_at0, q_rev, q_isNB, q_tupT, q_lstL, l2, none_n, i2, q_eqB]
    | _ => cases hb
  | _ => cases ha
theorem sgn_at {b : Bool} : atI [PyData.int 1, .int (-1)] (if b = true then 1 else 0) = some (.int (sgn b)) := by cases b <;> rfl
theorem int_bool {b : Bool} : opInt [.bool b] = some (.d (.int (if b = true then 1 else 0))) := (rfl)
/-! ### values compared -/
theorem ne_val {x y : PyData} (hx : valB x = true) (hy : valB y = true) : opNe x y = some (.d (.bool (!decide (valK x = valK y)))) := by
  cases x with
  | none =>
    cases y with
    | none => rfl
    | int j => rfl
    | _ => cases hy
  | int i =>
    cases y with
    | none => rfl
    | int j =>
      rw [q_neI]
      have e : decide (valK (.int i) = valK (.int j)) = decide (i = j) := decide_eq_decide.mpr ⟨fun h => by injection h, fun h => by rw [h]⟩
      rw [e]
    | _ => cases hy
  | _ => cases hx
theorem eq_val {x y : PyData} (hx : valB x = true) (hy : valB y = true) : opEq x y = some (.d (.bool (decide (valK x = valK y)))) := by
  cases x with
  | none =>
    cases y with
    | none => rfl
    | int j => rfl
    | _ => cases hy
  | int i =>
    cases y with
    | none => rfl
    | int j =>
      rw [q_eqI]
      have e : decide (valK (.int i) = valK (.int j)) = decide (i = j) := decide_eq_decide.mpr ⟨fun h => by injection h, fun h => by rw [h]⟩
      rw [e]
    | _ => cases hy
  | _ => cases hx
abbrev at' (xs : List PyData) (c : Nat) : PyData := xs.getD c .none
theorem RowS.at_ {n : Nat} {xs : List PyData} (h : RowS n xs) {c : Nat} (lt : c < n) : atI xs (c : Int) = some (at' xs c) ∧ valB (at' xs c) = true := by
  have hl : c < xs.length := by rw [h.len]; exact lt
  have e : at' xs c = xs[c] := by
    unfold at'
    rw [List.getD_eq_getElem?_getD, List.getElem?_eq_getElem hl]
    rfl
  exact ⟨q_at (by rw [e]; exact List.getElem?_eq_getElem hl), by rw [e]; exact val_is _ (h.v _ (List.getElem_mem hl))⟩
/-! ### flat rules -/
def diffF : List (Nat × Str) → List PyData → List PyData → Option Int
  | [], _, _ => none
  | p :: r, xs, ys => if valK (at' xs p.1) = valK (at' ys p.1) then diffF r xs ys else some (sgn (aheadB p.2 (at' xs p.1) (at' ys p.1)))
def sayF (fs : List (Nat × Str)) (xs ys : List PyData) : Int := (diffF fs xs ys).getD 0
def outF (o : Option Int) (e : En) : Out := match o with
  | none => .nx e
  | some v => .rt (.d (.int v)) e
theorem flat_loop1 {n : Nat} {xs ys : List PyData} (hx : RowS n xs) (hy : RowS n ys) (F : PyData) : ∀ (fs : List (Nat × Str)) (u3 u4 : Option Wv), (∀ p ∈ fs, p.1 < n) → notBrw (some u3) = true → notBrw (some u4) = true →
    ∃ u3' u4', forGo (tgTup [3, 4]) lp_flat_says_1 (fD fs) [some (.d F), some (.d (.tuple xs)), some (.d (.tuple ys)), u3, u4] = outF (diffF fs xs ys) [some (.d F), some (.d (.tuple xs)), some (.d (.tuple ys)), u3', u4']
  | [], u3, u4, _, _, _ => ⟨u3, u4, rfl⟩
  | p :: r, u3, u4, lt, h3, h4 => by
    obtain ⟨a1, a2⟩ := hx.at_ (lt p List.mem_cons_self)
    obtain ⟨b1, b2⟩ := hy.at_ (lt p List.mem_cons_self)
    have nv := ne_val a2 b2
    by_cases q : valK (at' xs p.1) = valK (at' ys p.1)
    · obtain ⟨u3', u4', ih⟩ := flat_loop1 hx hy F r (some (.d (nI p.1))) (some (.d (.str p.2))) (fun x h => lt x (List.mem_cons_of_mem _ h)) rfl rfl
      refine ⟨u3', u4', ?_⟩
      rw [show diffF (p :: r) xs ys = diffF r xs ys from if_pos q, ← ih]
      rw [decide_eq_true q] at nv
      unfold fD
      rw [List.map_cons]
      unfold lp_flat_says_1
      simp only [z_ob, z_om, z_b1, z_b2, z_be1, z_be2, z_bs1, z_bs2, z_bs3, z_bl1, z_bl2, z_bc1, z_bc2, z_cr1, z_cr2, z_or, z_os, z_oo, z_ol, z_oB, z_name, z_sn1, z_sn2, z_sn3, z_sn5, z_sn6, z_sn7, z_sn8, z_sn4, z_rs1, z_rs2, z_rs3, z_rs4, z_sr1, z_sr2, z_sr3, z_rss0, z_rss1, z_es, z_es1, z_es2, z_est, z_e1, z_e2, z_e4, z_se1, z_se2, z_se3, z_e5, z_nb4, z_nb5, z_nb6, z_a5, z_a6, z_a7, z_nb0, z_nb1, z_nb2, z_nb3, z_a1, z_a2, z_a3, z_a4, z_c, z_u2, z_u1, z_un, z_ev0, z_ev1, z_tup, z_lst, z_dt0, z_dt1, z_d1, z_isB, z_bt, z_bf, z_st, z_sf, z_and, z_dor, z_ite, z_not, z_no, z_chain, z_isi, z_iw1, z_iw2, z_iw3, z_isN, z_notN, z_nw1, z_nw2, z_mul, z_mw1, z_mw2, z_sl, z_po0, z_po1, z_io, z_oa, z_so1, z_so2, z_up, z_su1, z_su2, z_mut, z_mo, z_mt, z_meth, z_seq, z_next, z_asg, z_if, z_ret, z_rt, z_m1, z_m2, z_m3, z_m5, z_m6, z_m7, z_sm3, z_sm4, z_f5, z_f6, z_f7, z_k5, z_r4, z_r5, z_r6, z_m4, z_sm1, z_sm2, z_drop, z_raise, z_has, z_ho, z_seti, z_sI, z_fn, z_ent, z_f1, z_f2, z_f3, z_f4, z_k0, z_k1, z_k2, z_k3, z_k4, z_call, z_r1, z_r2, z_r3, z_callB, z_for, z_bls1, z_outR, z_fg0, z_fg1, z_lp1, z_lp2, z_lp3, z_it1, z_it2, z_rn0, z_asgT, z_tt, z_ta0, z_ta1, z_par, z_two, z_setW, List.getElem?_cons_zero, List.getElem?_cons_succ, List.set_cons_zero, List.set_cons_succ, List.map_cons, List.map_nil, List.length_cons, List.length_nil, List.cons_append, List.nil_append, List.replicate, Nat.zero_add, Nat.reduceAdd, Nat.reduceSub, if_true, List.append_nil, q_addI, q_sub, q_neg, q_cmp, q_ixL, q_ixT, q_lenL, q_lenT, q_int, q_max, q_min, q_tupL, q_lstT, q_isB, q_slL, q_slT, q_eqS, q_neS, q_tn, q_at0, q_rev, q_isNB, q_tupT, q_lstL, h3, h4, a1, b1, nv, Bool.not_true]
    · refine ⟨some (.d (nI p.1)), some (.d (.str p.2)), ?_⟩
      have cv := call_val (k := 3) rfl (order_says_ok (o := p.2) a2 b2)
      rw [show diffF (p :: r) xs ys = some (sgn (aheadB p.2 (at' xs p.1) (at' ys p.1))) from if_neg q]
      rw [decide_eq_false q] at nv
      unfold fD
      rw [List.map_cons]
      unfold lp_flat_says_1
      simp only [z_ob, z_om, z_b1, z_b2, z_be1, z_be2, z_bs1, z_bs2, z_bs3, z_bl1, z_bl2, z_bc1, z_bc2, z_cr1, z_cr2, z_or, z_os, z_oo, z_ol, z_oB, z_name, z_sn1, z_sn2, z_sn3, z_sn5, z_sn6, z_sn7, z_sn8, z_sn4, z_rs1, z_rs2, z_rs3, z_rs4, z_sr1, z_sr2, z_sr3, z_rss0, z_rss1, z_es, z_es1, z_es2, z_est, z_e1, z_e2, z_e4, z_se1, z_se2, z_se3, z_e5, z_nb4, z_nb5, z_nb6, z_a5, z_a6, z_a7, z_nb0, z_nb1, z_nb2, z_nb3, z_a1, z_a2, z_a3, z_a4, z_c, z_u2, z_u1, z_un, z_ev0, z_ev1, z_tup, z_lst, z_dt0, z_dt1, z_d1, z_isB, z_bt, z_bf, z_st, z_sf, z_and, z_dor, z_ite, z_not, z_no, z_chain, z_isi, z_iw1, z_iw2, z_iw3, z_isN, z_notN, z_nw1, z_nw2, z_mul, z_mw1, z_mw2, z_sl, z_po0, z_po1, z_io, z_oa, z_so1, z_so2, z_up, z_su1, z_su2, z_mut, z_mo, z_mt, z_meth, z_seq, z_next, z_asg, z_if, z_ret, z_rt, z_m1, z_m2, z_m3, z_m5, z_m6, z_m7, z_sm3, z_sm4, z_f5, z_f6, z_f7, z_k5, z_r4, z_r5, z_r6, z_m4, z_sm1, z_sm2, z_drop, z_raise, z_has, z_ho, z_seti, z_sI, z_fn, z_ent, z_f1, z_f2, z_f3, z_f4, z_k0, z_k1, z_k2, z_k3, z_k4, z_call, z_r1, z_r2, z_r3, z_callB, z_for, z_bls1, z_outR, z_fg0, z_fg1, z_lp1, z_lp2, z_lp3, z_it1, z_it2, z_rn0, z_asgT, z_tt, z_ta0, z_ta1, z_par, z_two, z_setW, List.getElem?_cons_zero, List.getElem?_cons_succ, List.set_cons_zero, List.set_cons_succ, List.map_cons, List.map_nil, List.length_cons, List.length_nil, List.cons_append, List.nil_append, List.replicate, Nat.zero_add, Nat.reduceAdd, Nat.reduceSub, if_true, List.append_nil, q_addI, q_sub, q_neg, q_cmp, q_ixL, q_ixT, q_lenL, q_lenT, q_int, q_max, q_min, q_tupL, q_lstT, q_isB, q_slL, q_slT, q_eqS, q_neS, q_tn, q_at0, q_rev, q_isNB, q_tupT, q_lstL, h3, h4, a1, b1, nv, cv, Bool.not_false]
      rfl
theorem flat_says_ok {n : Nat} {xs ys : List PyData} (hx : RowS n xs) (hy : RowS n ys) {fs : List (Nat × Str)} (lt : ∀ p ∈ fs, p.1 < n) : fn_flat_says [.d (.list (fD fs)), .d (.tuple xs), .d (.tuple ys)] = .ok (.d (.int (sayF fs xs ys))) [.d (.list (fD fs)), .d (.tuple xs), .d (.tuple ys)] := by
  obtain ⟨u3, u4, h⟩ := flat_loop1 hx hy (.list (fD fs)) fs none none lt rfl rfl
  unfold fn_flat_says dn_flat_says sayF
  cases q : diffF fs xs ys with
  | none =>
    rw [q] at h
    have h : forGo _ _ _ _ = Out.nx _ := h
    simp only [z_ob, z_om, z_b1, z_b2, z_be1, z_be2, z_bs1, z_bs2, z_bs3, z_bl1, z_bl2, z_bc1, z_bc2, z_cr1, z_cr2, z_or, z_os, z_oo, z_ol, z_oB, z_name, z_sn1, z_sn2, z_sn3, z_sn5, z_sn6, z_sn7, z_sn8, z_sn4, z_rs1, z_rs2, z_rs3, z_rs4, z_sr1, z_sr2, z_sr3, z_rss0, z_rss1, z_es, z_es1, z_es2, z_est, z_e1, z_e2, z_e4, z_se1, z_se2, z_se3, z_e5, z_nb4, z_nb5, z_nb6, z_a5, z_a6, z_a7, z_nb0, z_nb1, z_nb2, z_nb3, z_a1, z_a2, z_a3, z_a4, z_c, z_u2, z_u1, z_un, z_ev0, z_ev1, z_tup, z_lst, z_dt0, z_dt1, z_d1, z_isB, z_bt, z_bf, z_st, z_sf, z_and, z_dor, z_ite, z_not, z_no, z_chain, z_isi, z_iw1, z_iw2, z_iw3, z_isN, z_notN, z_nw1, z_nw2, z_mul, z_mw1, z_mw2, z_sl, z_po0, z_po1, z_io, z_oa, z_so1, z_so2, z_up, z_su1, z_su2, z_mut, z_mo, z_mt, z_meth, z_seq, z_next, z_asg, z_if, z_ret, z_rt, z_m1, z_m2, z_m3, z_m5, z_m6, z_m7, z_sm3, z_sm4, z_f5, z_f6, z_f7, z_k5, z_r4, z_r5, z_r6, z_m4, z_sm1, z_sm2, z_drop, z_raise, z_has, z_ho, z_seti, z_sI, z_fn, z_ent, z_f1, z_f2, z_f3, z_f4, z_k0, z_k1, z_k2, z_k3, z_k4, z_call, z_r1, z_r2, z_r3, z_callB, z_for, z_bls1, z_outR, z_fg0, z_fg1, z_lp1, z_lp2, z_lp3, z_it1, z_it2, z_rn0, z_asgT, z_tt, z_ta0, z_ta1, z_par, z_two, z_setW, List.getElem?_cons_zero, List.getElem?_cons_succ, List.set_cons_zero, List.set_cons_succ, List.map_cons, List.map_nil, List.length_cons, List.length_nil, List.cons_append, List.nil_append, List.replicate, Nat.zero_add, Nat.reduceAdd, Nat.reduceSub, if_true, List.append_nil, q_addI, q_sub, q_neg, q_cmp, q_ixL, q_ixT, q_lenL, q_lenT, q_int, q_max, q_min, q_tupL, q_lstT, q_isB, q_slL, q_slT, q_eqS, q_neS, q_tn, q_at0, q_rev, q_isNB, q_tupT, q_lstL, h]
    rfl
  | some v =>
    rw [q] at h
    have h : forGo _ _ _ _ = Out.rt (.d (.int v)) _ := h
    simp only [z_ob, z_om, z_b1, z_b2, z_be1, z_be2, z_bs1, z_bs2, z_bs3, z_bl1, z_bl2, z_bc1, z_bc2, z_cr1, z_cr2, z_or, z_os, z_oo, z_ol, z_oB, z_name, z_sn1, z_sn2, z_sn3, z_sn5, z_sn6, z_sn7, z_sn8, z_sn4, z_rs1, z_rs2, z_rs3, z_rs4, z_sr1, z_sr2, z_sr3, z_rss0, z_rss1, z_es, z_es1, z_es2, z_est, z_e1, z_e2, z_e4, z_se1, z_se2, z_se3, z_e5, z_nb4, z_nb5, z_nb6, z_a5, z_a6, z_a7, z_nb0, z_nb1, z_nb2, z_nb3, z_a1, z_a2, z_a3, z_a4, z_c, z_u2, z_u1, z_un, z_ev0, z_ev1, z_tup, z_lst, z_dt0, z_dt1, z_d1, z_isB, z_bt, z_bf, z_st, z_sf, z_and, z_dor, z_ite, z_not, z_no, z_chain, z_isi, z_iw1, z_iw2, z_iw3, z_isN, z_notN, z_nw1, z_nw2, z_mul, z_mw1, z_mw2, z_sl, z_po0, z_po1, z_io, z_oa, z_so1, z_so2, z_up, z_su1, z_su2, z_mut, z_mo, z_mt, z_meth, z_seq, z_next, z_asg, z_if, z_ret, z_rt, z_m1, z_m2, z_m3, z_m5, z_m6, z_m7, z_sm3, z_sm4, z_f5, z_f6, z_f7, z_k5, z_r4, z_r5, z_r6, z_m4, z_sm1, z_sm2, z_drop, z_raise, z_has, z_ho, z_seti, z_sI, z_fn, z_ent, z_f1, z_f2, z_f3, z_f4, z_k0, z_k1, z_k2, z_k3, z_k4, z_call, z_r1, z_r2, z_r3, z_callB, z_for, z_bls1, z_outR, z_fg0, z_fg1, z_lp1, z_lp2, z_lp3, z_it1, z_it2, z_rn0, z_asgT, z_tt, z_ta0, z_ta1, z_par, z_two, z_setW, List.getElem?_cons_zero, List.getElem?_cons_succ, List.set_cons_zero, List.set_cons_succ, List.map_cons, List.map_nil, List.length_cons, List.length_nil, List.cons_append, List.nil_append, List.replicate, Nat.zero_add, Nat.reduceAdd, Nat.reduceSub, if_true, List.append_nil, q_addI, q_sub, q_neg, q_cmp, q_ixL, q_ixT, q_lenL, q_lenT, q_int, q_max, q_min, q_tupL, q_lstT, q_isB, q_slL, q_slT, q_eqS, q_neS, q_tn, q_at0, q_rev, q_isNB, q_tupT, q_lstL, h]
    rfl
/-- .. as the law looks at it -/
theorem flat_loop2 {n : Nat} {xs ys : List PyData} (hx : RowS n xs) (hy : RowS n ys) (F : PyData) (f5 f6 f7 f8 : Option Wv) : ∀ (fs : List (Nat × Str)) (u3 u4 : Option Wv), (∀ p ∈ fs, p.1 < n ∧ p.2 ∈ ords) → notBrw (some u3) = true → notBrw (some u4) = true →
    ∃ u3' u4', forGo (tgTup [3, 4]) lp_law_compare_1 (fD fs) [some (.d F), some (.d (.tuple xs)), some (.d (.tuple ys)), u3, u4, f5, f6, f7, f8] = outF (diffF fs xs ys) [some (.d F), some (.d (.tuple xs)), some (.d (.tuple ys)), u3', u4', f5, f6, f7, f8]
  | [], u3, u4, _, _, _ => ⟨u3, u4, rfl⟩
  | p :: r, u3, u4, lt, h3, h4 => by
    obtain ⟨l1, o1⟩ := lt p List.mem_cons_self
    obtain ⟨a1, a2⟩ := hx.at_ l1
    obtain ⟨b1, b2⟩ := hy.at_ l1
    have nv := ne_val a2 b2
    have l2 : ∀ w, lim 2 w = some w := fun w => z_lim (by decide)
    by_cases q : valK (at' xs p.1) = valK (at' ys p.1)
    · obtain ⟨u3', u4', ih⟩ := flat_loop2 hx hy F f5 f6 f7 f8 r (some (.d (nI p.1))) (some (.d (.str p.2))) (fun x h => lt x (List.mem_cons_of_mem _ h)) rfl rfl
      refine ⟨u3', u4', ?_⟩
      rw [show diffF (p :: r) xs ys = diffF r xs ys from if_pos q, ← ih]
      rw [decide_eq_true q] at nv
      unfold fD
      rw [List.map_cons]
      unfold lp_law_compare_1
      simp only [z_ob, z_om, z_b1, z_b2, z_be1, z_be2, z_bs1, z_bs2, z_bs3, z_bl1, z_bl2, z_bc1, z_bc2, z_cr1, z_cr2, z_or, z_os, z_oo, z_ol, z_oB, z_name, z_sn1, z_sn2, z_sn3, z_sn5, z_sn6, z_sn7, z_sn8, z_sn4, z_rs1, z_rs2, z_rs3, z_rs4, z_sr1, z_sr2, z_sr3, z_rss0, z_rss1, z_es, z_es1, z_es2, z_est, z_e1, z_e2, z_e4, z_se1, z_se2, z_se3, z_e5, z_nb4, z_nb5, z_nb6, z_a5, z_a6, z_a7, z_nb0, z_nb1, z_nb2, z_nb3, z_a1, z_a2, z_a3, z_a4, z_c, z_u2, z_u1, z_un, z_ev0, z_ev1, z_tup, z_lst, z_dt0, z_dt1, z_d1, z_isB, z_bt, z_bf, z_st, z_sf, z_and, z_dor, z_ite, z_not, z_no, z_chain, z_isi, z_iw1, z_iw2, z_iw3, z_isN, z_notN, z_nw1, z_nw2, z_mul, z_mw1, z_mw2, z_sl, z_po0, z_po1, z_io, z_oa, z_so1, z_so2, z_up, z_su1, z_su2, z_mut, z_mo, z_mt, z_meth, z_seq, z_next, z_asg, z_if, z_ret, z_rt, z_m1, z_m2, z_m3, z_m5, z_m6, z_m7, z_sm3, z_sm4, z_f5, z_f6, z_f7, z_k5, z_r4, z_r5, z_r6, z_m4, z_sm1, z_sm2, z_drop, z_raise, z_has, z_ho, z_seti, z_sI, z_fn, z_ent, z_f1, z_f2, z_f3, z_f4, z_k0, z_k1, z_k2, z_k3, z_k4, z_call, z_r1, z_r2, z_r3, z_callB, z_for, z_bls1, z_outR, z_fg0, z_fg1, z_lp1, z_lp2, z_lp3, z_it1, z_it2, z_rn0, z_asgT, z_tt, z_ta0, z_ta1, z_par, z_two, z_setW, List.getElem?_cons_zero, List.getElem?_cons_succ, List.set_cons_zero, List.set_cons_succ, List.map_cons, List.map_nil, List.length_cons, List.length_nil, List.cons_append, List.nil_append, List.replicate, Nat.zero_add, Nat.reduceAdd, Nat.reduceSub, if_true, List.append_nil, q_addI, q_sub, q_neg, q_cmp, q_ixL, q_ixT, q_lenL, q_lenT, q_int, q_max, q_min, q_tupL, q_lstT, q_isB, q_slL, q_slT, q_eqS, q_neS, q_tn, q_at0, q_rev, q_isNB, q_tupT, q_lstL, h3, h4, a1, b1, nv, Bool.not_true]
    · refine ⟨some (.d (nI p.1)), some (.d (.str p.2)), ?_⟩
      have cv := call_val (k := 3) rfl (puts_ok o1 a2 b2)
      rw [show diffF (p :: r) xs ys = some (sgn (aheadB p.2 (at' xs p.1) (at' ys p.1))) from if_neg q]
      rw [decide_eq_false q] at nv
      unfold fD
      rw [List.map_cons]
      unfold lp_law_compare_1
      simp only [z_ob, z_om, z_b1, z_b2, z_be1, z_be2, z_bs1, z_bs2, z_bs3, z_bl1, z_bl2, z_bc1, z_bc2, z_cr1, z_cr2, z_or, z_os, z_oo, z_ol, z_oB, z_name, z_sn1, z_sn2, z_sn3, z_sn5, z_sn6, z_sn7, z_sn8, z_sn4, z_rs1, z_rs2, z_rs3, z_rs4, z_sr1, z_sr2, z_sr3, z_rss0, z_rss1, z_es, z_es1, z_es2, z_est, z_e1, z_e2, z_e4, z_se1, z_se2, z_se3, z_e5, z_nb4, z_nb5, z_nb6, z_a5, z_a6, z_a7, z_nb0, z_nb1, z_nb2, z_nb3, z_a1, z_a2, z_a3, z_a4, z_c, z_u2, z_u1, z_un, z_ev0, z_ev1, z_tup, z_lst, z_dt0, z_dt1, z_d1, z_isB, z_bt, z_bf, z_st, z_sf, z_and, z_dor, z_ite, z_not, z_no, z_chain, z_isi, z_iw1, z_iw2, z_iw3, z_isN, z_notN, z_nw1, z_nw2, z_mul, z_mw1, z_mw2, z_sl, z_po0, z_po1, z_io, z_oa, z_so1, z_so2, z_up, z_su1, z_su2, z_mut, z_mo, z_mt, z_meth, z_seq, z_next, z_asg, z_if, z_ret, z_rt, z_m1, z_m2, z_m3, z_m5, z_m6, z_m7, z_sm3, z_sm4, z_f5, z_f6, z_f7, z_k5, z_r4, z_r5, z_r6, z_m4, z_sm1, z_sm2, z_drop, z_raise, z_has, z_ho, z_seti, z_sI, z_fn, z_ent, z_f1, z_f2, z_f3, z_f4, z_k0, z_k1, z_k2, z_k3, z_k4, z_call, z_r1, z_r2, z_r3, z_callB, z_for, z_bls1, z_outR, z_fg0, z_fg1, z_lp1, z_lp2, z_lp3, z_it1, z_it2, z_rn0, z_asgT, z_tt, z_ta0, z_ta1, z_par, z_two, z_setW, List.getElem?_cons_zero, List.getElem?_cons_succ, List.set_cons_zero, List.set_cons_succ, List.map_cons, List.map_nil, List.length_cons, List.length_nil, List.cons_append, List.nil_append, List.replicate, Nat.zero_add, Nat.reduceAdd, Nat.reduceSub, if_true, List.append_nil, q_addI, q_sub, q_neg, q_cmp, q_ixL, q_ixT, q_lenL, q_lenT, q_int, q_max, q_min, q_tupL, q_lstT, q_isB, q_slL, q_slT, q_eqS, q_neS, q_tn, q_at0, q_rev, q_isNB, q_tupT, q_lstL, h3, h4, a1, b1, nv, l2, cv, int_bool, sgn_at, Bool.not_false]
      rfl
theorem lcompare_flat {n : Nat} {xs ys : List PyData} (hx : RowS n xs) (hy : RowS n ys) {fs : List (Nat × Str)} (lt : ∀ p ∈ fs, p.1 < n ∧ p.2 ∈ ords) {f : Nat} : fn__law_compare (f + 1) [.d (.list (fD fs)), .d (.tuple xs), .d (.tuple ys)] = .ok (.d (.int (sayF fs xs ys))) [.d (.list (fD fs)), .d (.tuple xs), .d (.tuple ys)] := by
  obtain ⟨u3, u4, h⟩ := flat_loop2 hx hy (.list (fD fs)) none none none none fs none none lt rfl rfl
  have at_ : ∀ xs, aList (.list xs) = some true := fun _ => rfl
  unfold fn__law_compare dn__law_compare sayF
  cases q : diffF fs xs ys with
  | none =>
    rw [q] at h
    have h : forGo _ _ _ _ = Out.nx _ := h
    simp only [z_ob, z_om, z_b1, z_b2, z_be1, z_be2, z_bs1, z_bs2, z_bs3, z_bl1, z_bl2, z_bc1, z_bc2, z_cr1, z_cr2, z_or, z_os, z_oo, z_ol, z_oB, z_name, z_sn1, z_sn2, z_sn3, z_sn5, z_sn6, z_sn7, z_sn8, z_sn4, z_rs1, z_rs2, z_rs3, z_rs4, z_sr1, z_sr2, z_sr3, z_rss0, z_rss1, z_es, z_es1, z_es2, z_est, z_e1, z_e2, z_e4, z_se1, z_se2, z_se3, z_e5, z_nb4, z_nb5, z_nb6, z_a5, z_a6, z_a7, z_nb0, z_nb1, z_nb2, z_nb3, z_a1, z_a2, z_a3, z_a4, z_c, z_u2, z_u1, z_un, z_ev0, z_ev1, z_tup, z_lst, z_dt0, z_dt1, z_d1, z_isB, z_bt, z_bf, z_st, z_sf, z_and, z_dor, z_ite, z_not, z_no, z_chain, z_isi, z_iw1, z_iw2, z_iw3, z_isN, z_notN, z_nw1, z_nw2, z_mul, z_mw1, z_mw2, z_sl, z_po0, z_po1, z_io, z_oa, z_so1, z_so2, z_up, z_su1, z_su2, z_mut, z_mo, z_mt, z_meth, z_seq, z_next, z_asg, z_if, z_ret, z_rt, z_m1, z_m2, z_m3, z_m5, z_m6, z_m7, z_sm3, z_sm4, z_f5, z_f6, z_f7, z_k5, z_r4, z_r5, z_r6, z_m4, z_sm1, z_sm2, z_drop, z_raise, z_has, z_ho, z_seti, z_sI, z_fn, z_ent, z_f1, z_f2, z_f3, z_f4, z_k0, z_k1, z_k2, z_k3, z_k4, z_call, z_r1, z_r2, z_r3, z_callB, z_for, z_bls1, z_outR, z_fg0, z_fg1, z_lp1, z_lp2, z_lp3, z_it1, z_it2, z_rn0, z_asgT, z_tt, z_ta0, z_ta1, z_par, z_two, z_setW, List.getElem?_cons_zero, List.getElem?_cons_succ, List.set_cons_zero, List.set_cons_succ, List.map_cons, List.map_nil, List.length_cons, List.length_nil, List.cons_append, List.nil_append, List.replicate, Nat.zero_add, Nat.reduceAdd, Nat.reduceSub, if_true, List.append_nil, q_addI, q_sub, q_neg, q_cmp, q_ixL, q_ixT, q_lenL, q_lenT, q_int, q_max, q_min, q_tupL, q_lstT, q_isB, q_slL, q_slT, q_eqS, q_neS, q_tn, q_at0, q_rev, q_isNB, q_tupT, q_lstL, at_, h]
    rfl
  | some v =>
    rw [q] at h
    have h : forGo _ _ _ _ = Out.rt (.d (.int v)) _ := h
    simp only [z_ob, z_om, z_b1, z_b2, z_be1, z_be2, z_bs1, z_bs2, z_bs3, z_bl1, z_bl2, z_bc1, z_bc2, z_cr1, z_cr2, z_or, z_os, z_oo, z_ol, z_oB, z_name, z_sn1, z_sn2, z_sn3, z_sn5, z_sn6, z_sn7, z_sn8, z_sn4, z_rs1, z_rs2, z_rs3, z_rs4, z_sr1, z_sr2, z_sr3, z_rss0, z_rss1, z_es, z_es1, z_es2, z_est, z_e1, z_e2, z_e4, z_se1, z_se2, z_se3, z_e5, z_nb4, z_nb5, z_nb6, z_a5, z_a6, z_a7, z_nb0, z_nb1, z_nb2, z_nb3, z_a1, z_a2, z_a3, z_a4, z_c, z_u2, z_u1, z_un, z_ev0, z_ev1, z_tup, z_lst, z_dt0, z_dt1, z_d1, z_isB, z_bt, z_bf, z_st, z_sf, z_and, z_dor, z_ite, z_not, z_no, z_chain, z_isi, z_iw1, z_iw2, z_iw3, z_isN, z_notN, z_nw1, z_nw2, z_mul, z_mw1, z_mw2, z_sl, z_po0, z_po1, z_io, z_oa, z_so1, z_so2, z_up, z_su1, z_su2, z_mut, z_mo, z_mt, z_meth, z_seq, z_next, z_asg, z_if, z_ret, z_rt, z_m1, z_m2, z_m3, z_m5, z_m6, z_m7, z_sm3, z_sm4, z_f5, z_f6, z_f7, z_k5, z_r4, z_r5, z_r6, z_m4, z_sm1, z_sm2, z_drop, z_raise, z_has, z_ho, z_seti, z_sI, z_fn, z_ent, z_f1, z_f2, z_f3, z_f4, z_k0, z_k1, z_k2, z_k3, z_k4, z_call, z_r1, z_r2, z_r3, z_callB, z_for, z_bls1, z_outR, z_fg0, z_fg1, z_lp1, z_lp2, z_lp3, z_it1, z_it2, z_rn0, z_asgT, z_tt, z_ta0, z_ta1, z_par, z_two, z_setW, List.getElem?_cons_zero, List.getElem?_cons_succ, List.set_cons_zero, List.set_cons_succ, List.map_cons, List.map_nil, List.length_cons, List.length_nil, List.cons_append, List.nil_append, List.replicate, Nat.zero_add, Nat.reduceAdd, Nat.reduceSub, if_true, List.append_nil, q_addI, q_sub, q_neg, q_cmp, q_ixL, q_ixT, q_lenL, q_lenT, q_int, q_max, q_min, q_tupL, q_lstT, q_isB, q_slL, q_slT, q_eqS, q_neS, q_tn, q_at0, q_rev, q_isNB, q_tupT, q_lstL, at_, h]
    rfl
end Vf.Law
/-! How trees compare rows. -/
namespace Vf.Law
open PySem PySem.Spec L2
def selB : List (PyData × PyData) → PyData → PyData → Option PyData
  | [], _, _ => none
  | b :: bs, r, a => if valK b.1 = valK a then some b.2 else selB bs r a
def unB : List PyData → List (PyData × PyData)
  | [] => []
  | .tuple [v, t] :: r => (v, t) :: unB r
  | _ :: r => unB r
theorem unB_map : ∀ bs : List (PyData × PyData), unB (bs.map tD2) = bs
  | [] => rfl
  | b :: bs => by
    show (b.1, b.2) :: unB (bs.map tD2) = _
    rw [unB_map bs]
def sayT : Nat → PyData → List PyData → List PyData → Int
  | f + 1, .tuple [.int c, .str o, .list bs, r], xs, ys => if valK (at' xs c.toNat) = valK (at' ys c.toNat) then sayT f ((selB (unB bs) r (at' xs c.toNat)).getD r) xs ys else sgn (aheadB o (at' xs c.toNat) (at' ys c.toNat))
  | _, _, _, _ => 0
theorem sayT_none {f : Nat} {xs ys : List PyData} : sayT f .none xs ys = 0 := by cases f <;> rfl
theorem sayT_node {f c : Nat} {o : Str} {bs : List (PyData × PyData)} {r : PyData} {xs ys : List PyData} :
    sayT (f + 1) (nodeD c o bs r) xs ys = if valK (at' xs c) = valK (at' ys c) then sayT f ((selB bs r (at' xs c)).getD r) xs ys else sgn (aheadB o (at' xs c) (at' ys c)) := by
  show (if valK (at' xs (c : Int).toNat) = valK (at' ys (c : Int).toNat) then sayT f ((selB (unB (bs.map tD2)) r (at' xs (c : Int).toNat)).getD r) xs ys else sgn (aheadB o (at' xs (c : Int).toNat) (at' ys (c : Int).toNat))) = _
  rw [Int.toNat_natCast, unB_map]
theorem sel_mem : ∀ {bs : List (PyData × PyData)} {r a t : PyData}, selB bs r a = some t → ∃ b ∈ bs, b.2 = t
  | [], _, _, _, h => by cases h
  | b :: bs, r, a, t, h => by
    by_cases q : valK b.1 = valK a
    · rw [show selB (b :: bs) r a = some b.2 from if_pos q] at h
      cases h
      exact ⟨b, List.mem_cons_self, rfl⟩
    · rw [show selB (b :: bs) r a = selB bs r a from if_neg q] at h
      obtain ⟨x, hx, e⟩ := sel_mem h
      exact ⟨x, List.mem_cons_of_mem _ hx, e⟩
theorem sel_tree {cs : List PyData} {d : Nat} {us : List Nat} {bs : List (PyData × PyData)} {r a : PyData} (hb : ∀ b ∈ bs, b.1 ∈ TV ∧ TreeS cs d us b.2) (hr : TreeS cs d us r) : TreeS cs d us ((selB bs r a).getD r) := by
  cases q : selB bs r a with
  | none => exact hr
  | some t =>
    obtain ⟨b, hm, rfl⟩ := sel_mem q
    exact (hb b hm).2
theorem tree_for_loop {a : PyData} (ha : valB a = true) (T : PyData) : ∀ (bs : List (PyData × PyData)) (r : PyData) (u2 u3 : Option Wv), (∀ b ∈ bs, valB b.1 = true) → notBrw (some u2) = true → notBrw (some u3) = true →
    ∃ u2' u3', forGo (tgTup [2, 3]) lp_tree_for_1 (bs.map tD2) [some (.d T), some (.d a), u2, u3] = (match selB bs r a with
      | some t => .rt (.d t) [some (.d T), some (.d a), u2', u3']
      | none => .nx [some (.d T), some (.d a), u2', u3'])
  | [], r, u2, u3, _, _, _ => ⟨u2, u3, rfl⟩
  | b :: bs, r, u2, u3, hv, h2, h3 => by
    have ev := eq_val (hv b List.mem_cons_self) ha
    by_cases q : valK b.1 = valK a
    · refine ⟨some (.d b.1), some (.d b.2), ?_⟩
      rw [show selB (b :: bs) r a = some b.2 from if_pos q, List.map_cons]
      rw [decide_eq_true q] at ev
      unfold lp_tree_for_1
      simp only [z_ob, z_om, z_b1, z_b2, z_be1, z_be2, z_bs1, z_bs2, z_bs3, z_bl1, z_bl2, z_bc1, z_bc2, z_cr1, z_cr2, z_or, z_os, z_oo, z_ol, z_oB, z_name, z_sn1, z_sn2, z_sn3, z_sn5, z_sn6, z_sn7, z_sn8, z_sn4, z_rs1, z_rs2, z_rs3, z_rs4, z_sr1, z_sr2, z_sr3, z_rss0, z_rss1, z_es, z_es1, z_es2, z_est, z_e1, z_e2, z_e4, z_se1, z_se2, z_se3, z_e5, z_nb4, z_nb5, z_nb6, z_a5, z_a6, z_a7, z_nb0, z_nb1, z_nb2, z_nb3, z_a1, z_a2, z_a3, z_a4, z_c, z_u2, z_u1, z_un, z_ev0, z_ev1, z_tup, z_lst, z_dt0, z_dt1, z_d1, z_isB, z_bt, z_bf, z_st, z_sf, z_and, z_dor, z_ite, z_not, z_no, z_chain, z_isi, z_iw1, z_iw2, z_iw3, z_isN, z_notN, z_nw1, z_nw2, z_mul, z_mw1, z_mw2, z_sl, z_po0, z_po1, z_io, z_oa, z_so1, z_so2, z_up, z_su1, z_su2, z_mut, z_mo, z_mt, z_meth, z_seq, z_next, z_asg, z_if, z_ret, z_rt, z_m1, z_m2, z_m3, z_m5, z_m6, z_m7, z_sm3, z_sm4, z_f5, z_f6, z_f7, z_k5, z_r4, z_r5, z_r6, z_m4, z_sm1, z_sm2, z_drop, z_raise, z_has, z_ho, z_seti, z_sI, z_fn, z_ent, z_f1, z_f2, z_f3, z_f4, z_k0, z_k1, z_k2, z_k3, z_k4, z_call, z_r1, z_r2, z_r3, z_callB, z_for, z_bls1, z_outR, z_fg0, z_fg1, z_lp1, z_lp2, z_lp3, z_it1, z_it2, z_rn0, z_asgT, z_tt, z_ta0, z_ta1, z_par, z_two, z_setW, List.getElem?_cons_zero, List.getElem?_cons_succ, List.set_cons_zero, List.set_cons_succ, List.map_cons, List.map_nil, List.length_cons, List.length_nil, List.cons_append, List.nil_append, List.replicate, Nat.zero_add, Nat.reduceAdd, Nat.reduceSub, if_true, List.append_nil, q_addI, q_sub, q_neg, q_cmp, q_ixL, q_ixT, q_lenL, q_lenT, q_int, q_max, q_min, q_tupL, q_lstT, q_isB, q_slL, q_slT, q_eqS, q_neS, q_tn, q_at0, q_rev, q_isNB, q_tupT, q_lstL, h2, h3, ev]
    · obtain ⟨u2', u3', ih⟩ := tree_for_loop ha T bs r (some (.d b.1)) (some (.d b.2)) (fun x h => hv x (List.mem_cons_of_mem _ h)) rfl rfl
      refine ⟨u2', u3', ?_⟩
      rw [show selB (b :: bs) r a = selB bs r a from if_neg q, List.map_cons, ← ih]
      rw [decide_eq_false q] at ev
      unfold lp_tree_for_1
      simp only [z_ob, z_om, z_b1, z_b2, z_be1, z_be2, z_bs1, z_bs2, z_bs3, z_bl1, z_bl2, z_bc1, z_bc2, z_cr1, z_cr2, z_or, z_os, z_oo, z_ol, z_oB, z_name, z_sn1, z_sn2, z_sn3, z_sn5, z_sn6, z_sn7, z_sn8, z_sn4, z_rs1, z_rs2, z_rs3, z_rs4, z_sr1, z_sr2, z_sr3, z_rss0, z_rss1, z_es, z_es1, z_es2, z_est, z_e1, z_e2, z_e4, z_se1, z_se2, z_se3, z_e5, z_nb4, z_nb5, z_nb6, z_a5, z_a6, z_a7, z_nb0, z_nb1, z_nb2, z_nb3, z_a1, z_a2, z_a3, z_a4, z_c, z_u2, z_u1, z_un, z_ev0, z_ev1, z_tup, z_lst, z_dt0, z_dt1, z_d1, z_isB, z_bt, z_bf, z_st, z_sf, z_and, z_dor, z_ite, z_not, z_no, z_chain, z_isi, z_iw1, z_iw2, z_iw3, z_isN, z_notN, z_nw1, z_nw2, z_mul, z_mw1, z_mw2, z_sl, z_po0, z_po1, z_io, z_oa, z_so1, z_so2, z_up, z_su1, z_su2, z_mut, z_mo, z_mt, z_meth, z_seq, z_next, z_asg, z_if, z_ret, z_rt, z_m1, z_m2, z_m3, z_m5, z_m6, z_m7, z_sm3, z_sm4, z_f5, z_f6, z_f7, z_k5, z_r4, z_r5, z_r6, z_m4, z_sm1, z_sm2, z_drop, z_raise, z_has, z_ho, z_seti, z_sI, z_fn, z_ent, z_f1, z_f2, z_f3, z_f4, z_k0, z_k1, z_k2, z_k3, z_k4, z_call, z_r1, z_r2, z_r3, z_callB, z_for, z_bls1, z_outR, z_fg0, z_fg1, z_lp1, z_lp2, z_lp3, z_it1, z_it2, z_rn0, z_asgT, z_tt, z_ta0, z_ta1, z_par, z_two, z_setW, List.getElem?_cons_zero, List.getElem?_cons_succ, List.set_cons_zero, List.set_cons_succ, List.map_cons, List.map_nil, List.length_cons, List.length_nil, List.cons_append, List.nil_append, List.replicate, Nat.zero_add, Nat.reduceAdd, Nat.reduceSub, if_true, List.append_nil, q_addI, q_sub, q_neg, q_cmp, q_ixL, q_ixT, q_lenL, q_lenT, q_int, q_max, q_min, q_tupL, q_lstT, q_isB, q_slL, q_slT, q_eqS, q_neS, q_tn, q_at0, q_rev, q_isNB, q_tupT, q_lstL, h2, h3, ev]
theorem tree_for_ok {c : Nat} {o : Str} {bs : List (PyData × PyData)} {r a : PyData} (ha : valB a = true) (hv : ∀ b ∈ bs, valB b.1 = true) : fn_tree_for [.d (nodeD c o bs r), .d a] = .ok (.d ((selB bs r a).getD r)) [.d (nodeD c o bs r), .d a] := by
  obtain ⟨u2, u3, h⟩ := tree_for_loop ha (nodeD c o bs r) bs r none none hv rfl rfl
  have i2 : atI [nI c, .str o, .list (bs.map tD2), r] 2 = some (.list (bs.map tD2)) := q_at (n := 2) rfl
  have i3 : atI [nI c, .str o, .list (bs.map tD2), r] 3 = some r := q_at (n := 3) rfl
  unfold fn_tree_for dn_tree_for
  cases q : selB bs r a with
  | none =>
    rw [q] at h
    have h : forGo _ _ _ _ = Out.nx _ := h
    unfold nodeD at *
    simp only [z_ob, z_om, z_b1, z_b2, z_be1, z_be2, z_bs1, z_bs2, z_bs3, z_bl1, z_bl2, z_bc1, z_bc2, z_cr1, z_cr2, z_or, z_os, z_oo, z_ol, z_oB, z_name, z_sn1, z_sn2, z_sn3, z_sn5, z_sn6, z_sn7, z_sn8, z_sn4, z_rs1, z_rs2, z_rs3, z_rs4, z_sr1, z_sr2, z_sr3, z_rss0, z_rss1, z_es, z_es1, z_es2, z_est, z_e1, z_e2, z_e4, z_se1, z_se2, z_se3, z_e5, z_nb4, z_nb5, z_nb6, z_a5, z_a6, z_a7, z_nb0, z_nb1, z_nb2, z_nb3, z_a1, z_a2, z_a3, z_a4, z_c, z_u2, z_u1, z_un, z_ev0, z_ev1, z_tup, z_lst, z_dt0, z_dt1, z_d1, z_isB, z_bt, z_bf, z_st, z_sf, z_and, z_dor, z_ite, z_not, z_no, z_chain, z_isi, z_iw1, z_iw2, z_iw3, z_isN, z_notN, z_nw1, z_nw2, z_mul, z_mw1, z_mw2, z_sl, z_po0, z_po1, z_io, z_oa, z_so1, z_so2, z_up, z_su1, z_su2, z_mut, z_mo, z_mt, z_meth, z_seq, z_next, z_asg, z_if, z_ret, z_rt, z_m1, z_m2, z_m3, z_m5, z_m6, z_m7, z_sm3, z_sm4, z_f5, z_f6, z_f7, z_k5, z_r4, z_r5, z_r6, z_m4, z_sm1, z_sm2, z_drop, z_raise, z_has, z_ho, z_seti, z_sI, z_fn, z_ent, z_f1, z_f2, z_f3, z_f4, z_k0, z_k1, z_k2, z_k3, z_k4, z_call, z_r1, z_r2, z_r3, z_callB, z_for, z_bls1, z_outR, z_fg0, z_fg1, z_lp1, z_lp2, z_lp3, z_it1, z_it2, z_rn0, z_asgT, z_tt, z_ta0, z_ta1, z_par, z_two, z_setW, List.getElem?_cons_zero, List.getElem?_cons_succ, List.set_cons_zero, List.set_cons_succ, List.map_cons, List.map_nil, List.length_cons, List.length_nil, List.cons_append, List.nil_append, List.replicate, Nat.zero_add, Nat.reduceAdd, Nat.reduceSub, if_true, List.append_nil, q_addI, q_sub, q_neg, q_cmp, q_ixL, q_ixT, q_lenL, q_lenT, q_int, q_max, q_min, q_tupL, q_lstT, q_isB, q_slL, q_slT, q_eqS, q_neS, q_tn, q_at0, q_rev, q_isNB, q_tupT, q_lstL, i2, i3, h]
    rfl
  | some t =>
    rw [q] at h
    have h : forGo _ _ _ _ = Out.rt (.d t) _ := h
    unfold nodeD at *
    simp only [z_ob, z_om, z_b1, z_b2, z_be1, z_be2, z_bs1, z_bs2, z_bs3, z_bl1, z_bl2, z_bc1, z_bc2, z_cr1, z_cr2, z_or, z_os, z_oo, z_ol, z_oB, z_name, z_sn1, z_sn2, z_sn3, z_sn5, z_sn6, z_sn7, z_sn8, z_sn4, z_rs1, z_rs2, z_rs3, z_rs4, z_sr1, z_sr2, z_sr3, z_rss0, z_rss1, z_es, z_es1, z_es2, z_est, z_e1, z_e2, z_e4, z_se1, z_se2, z_se3, z_e5, z_nb4, z_nb5, z_nb6, z_a5, z_a6, z_a7, z_nb0, z_nb1, z_nb2, z_nb3, z_a1, z_a2, z_a3, z_a4, z_c, z_u2, z_u1, z_un, z_ev0, z_ev1, z_tup, z_lst, z_dt0, z_dt1, z_d1, z_isB, z_bt, z_bf, z_st, z_sf, z_and, z_dor, z_ite, z_not, z_no, z_chain, z_isi, z_iw1, z_iw2, z_iw3, z_isN, z_notN, z_nw1, z_nw2, z_mul, z_mw1, z_mw2, z_sl, z_po0, z_po1, z_io, z_oa, z_so1, z_so2, z_up, z_su1, z_su2, z_mut, z_mo, z_mt, z_meth, z_seq, z_next, z_asg, z_if, z_ret, z_rt, z_m1, z_m2, z_m3, z_m5, z_m6, z_m7, z_sm3, z_sm4, z_f5, z_f6, z_f7, z_k5, z_r4, z_r5, z_r6, z_m4, z_sm1, z_sm2, z_drop, z_raise, z_has, z_ho, z_seti, z_sI, z_fn, z_ent, z_f1, z_f2, z_f3, z_f4, z_k0, z_k1, z_k2, z_k3, z_k4, z_call, z_r1, z_r2, z_r3, z_callB, z_for, z_bls1, z_outR, z_fg0, z_fg1, z_lp1, z_lp2, z_lp3, z_it1, z_it2, z_rn0, z_asgT, z_tt, z_ta0, z_ta1, z_par, z_two, z_setW, List.getElem?_cons_zero, List.getElem?_cons_succ, List.set_cons_zero, List.set_cons_succ, List.map_cons, List.map_nil, List.length_cons, List.length_nil, List.cons_append, List.nil_append, List.replicate, Nat.zero_add, Nat.reduceAdd, Nat.reduceSub, if_true, List.append_nil, q_addI, q_sub, q_neg, q_cmp, q_ixL, q_ixT, q_lenL, q_lenT, q_int, q_max, q_min, q_tupL, q_lstT, q_isB, q_slL, q_slT, q_eqS, q_neS, q_tn, q_at0, q_rev, q_isNB, q_tupT, q_lstL, i2, i3, h]
    rfl
theorem none_t {xs : List PyData} : isNone (.tuple xs) = false := rfl
theorem tree_says_ok {cs xs ys : List PyData} (hx : RowS cs.length xs) (hy : RowS cs.length ys) : ∀ (d f : Nat) (us : List Nat) (t : PyData), d < f → TreeS cs d us t →
    fn_tree_says f [.d t, .d (.tuple xs), .d (.tuple ys)] = .ok (.d (.int (sayT f t xs ys))) [.d t, .d (.tuple xs), .d (.tuple ys)]
  | d, 0, us, t, h, _ => absurd h (Nat.not_lt_zero _)
  | 0, f + 1, us, t, _, ht => by
    cases ht
    rfl
  | d + 1, f + 1, us, t, hf, ht => by
    rcases ht with rfl | ⟨c, o, bs, r, rfl, st, nu, few, nd, hb, hr⟩
    · rfl
    · have lt : c < cs.length := st.lt
      obtain ⟨a1, a2⟩ := hx.at_ lt
      obtain ⟨b1, b2⟩ := hy.at_ lt
      have nv := ne_val a2 b2
      have i1 : atI [nI c, .str o, .list (bs.map tD2), r] 1 = some (.str o) := q_at (n := 1) rfl
      rw [sayT_node]
      unfold fn_tree_says dn_tree_says
      by_cases q : valK (at' xs c) = valK (at' ys c)
      · rw [if_pos q]
        rw [decide_eq_true q] at nv
        have tf := call_val (k := 2) rfl (tree_for_ok (c := c) (o := o) (r := r) a2 fun b h => tv_val _ (hb b h).1)
        have ih := call_val (k := 3) rfl (tree_says_ok hx hy d f (us ++ [c]) _ (by omega) (sel_tree (a := at' xs c) hb hr))
        unfold nodeD at *
        simp only [z_ob, z_om, z_b1, z_b2, z_be1, z_be2, z_bs1, z_bs2, z_bs3, z_bl1, z_bl2, z_bc1, z_bc2, z_cr1, z_cr2, z_or, z_os, z_oo, z_ol, z_oB, z_name, z_sn1, z_sn2, z_sn3, z_sn5, z_sn6, z_sn7, z_sn8, z_sn4, z_rs1, z_rs2, z_rs3, z_rs4, z_sr1, z_sr2, z_sr3, z_rss0, z_rss1, z_es, z_es1, z_es2, z_est, z_e1, z_e2, z_e4, z_se1, z_se2, z_se3, z_e5, z_nb4, z_nb5, z_nb6, z_a5, z_a6, z_a7, z_nb0, z_nb1, z_nb2, z_nb3, z_a1, z_a2, z_a3, z_a4, z_c, z_u2, z_u1, z_un, z_ev0, z_ev1, z_tup, z_lst, z_dt0, z_dt1, z_d1, z_isB, z_bt, z_bf, z_st, z_sf, z_and, z_dor, z_ite, z_not, z_no, z_chain, z_isi, z_iw1, z_iw2, z_iw3, z_isN, z_notN, z_nw1, z_nw2, z_mul, z_mw1, z_mw2, z_sl, z_po0, z_po1, z_io, z_oa, z_so1, z_so2, z_up, z_su1, z_su2, z_mut, z_mo, z_mt, z_meth, z_seq, z_next, z_asg, z_if, z_ret, z_rt, z_m1, z_m2, z_m3, z_m5, z_m6, z_m7, z_sm3, z_sm4, z_f5, z_f6, z_f7, z_k5, z_r4, z_r5, z_r6, z_m4, z_sm1, z_sm2, z_drop, z_raise, z_has, z_ho, z_seti, z_sI, z_fn, z_ent, z_f1, z_f2, z_f3, z_f4, z_k0, z_k1, z_k2, z_k3, z_k4, z_call, z_r1, z_r2, z_r3, z_callB, z_for, z_bls1, z_outR, z_fg0, z_fg1, z_lp1, z_lp2, z_lp3, z_it1, z_it2, z_rn0, z_asgT, z_tt, z_ta0, z_ta1, z_par, z_two, z_setW, List.getElem?_cons_zero, List.getElem?_cons_succ, List.set_cons_zero, List.set_cons_succ, List.map_cons, List.map_nil, List.length_cons, List.length_nil, List.cons_append, List.nil_append, List.replicate, Nat.zero_add, Nat.reduceAdd, Nat.reduceSub, if_true, List.append_nil, q_addI, q_sub, q_neg, q_cmp, q_ixL, q_ixT, q_lenL, q_lenT, q_int, q_max, q_min, q_tupL, q_lstT, q_isB, q_slL, q_slT, q_eqS, q_neS, q_tn, q_at0, q_rev, q_isNB, q_tupT, q_lstL, none_t, a1, b1, nv, tf, ih, Bool.not_true]
      · rw [if_neg q]
        rw [decide_eq_false q] at nv
        have cv := call_val (k := 3) rfl (order_says_ok (o := o) a2 b2)
        unfold nodeD at *
        simp only [z_ob, z_om, z_b1, z_b2, z_be1, z_be2, z_bs1, z_bs2, z_bs3, z_bl1, z_bl2, z_bc1, z_bc2, z_cr1, z_cr2, z_or, z_os, z_oo, z_ol, z_oB, z_name, z_sn1, z_sn2, z_sn3, z_sn5, z_sn6, z_sn7, z_sn8, z_sn4, z_rs1, z_rs2, z_rs3, z_rs4, z_sr1, z_sr2, z_sr3, z_rss0, z_rss1, z_es, z_es1, z_es2, z_est, z_e1, z_e2, z_e4, z_se1, z_se2, z_se3, z_e5, z_nb4, z_nb5, z_nb6, z_a5, z_a6, z_a7, z_nb0, z_nb1, z_nb2, z_nb3, z_a1, z_a2, z_a3, z_a4, z_c, z_u2, z_u1, z_un, z_ev0, z_ev1, z_tup, z_lst, z_dt0, z_dt1, z_d1, z_isB, z_bt, z_bf, z_st, z_sf, z_and, z_dor, z_ite, z_not, z_no, z_chain, z_isi, z_iw1, z_iw2, z_iw3, z_isN, z_notN, z_nw1, z_nw2, z_mul, z_mw1, z_mw2, z_sl, z_po0, z_po1, z_io, z_oa, z_so1, z_so2, z_up, z_su1, z_su2, z_mut, z_mo, z_mt, z_meth, z_seq, z_next, z_asg, z_if, z_ret, z_rt, z_m1, z_m2, z_m3, z_m5, z_m6, z_m7, z_sm3, z_sm4, z_f5, z_f6, z_f7, z_k5, z_r4, z_r5, z_r6, z_m4, z_sm1, z_sm2, z_drop, z_raise, z_has, z_ho, z_seti, z_sI, z_fn, z_ent, z_f1, z_f2, z_f3, z_f4, z_k0, z_k1, z_k2, z_k3, z_k4, z_call, z_r1, z_r2, z_r3, z_callB, z_for, z_bls1, z_outR, z_fg0, z_fg1, z_lp1, z_lp2, z_lp3, z_it1, z_it2, z_rn0, z_asgT, z_tt, z_ta0, z_ta1, z_par, z_two, z_setW, List.getElem?_cons_zero, List.getElem?_cons_succ, List.set_cons_zero, List.set_cons_succ, List.map_cons, List.map_nil, List.length_cons, List.length_nil, List.cons_append, List.nil_append, List.replicate, Nat.zero_add, Nat.reduceAdd, Nat.reduceSub, if_true, List.append_nil, q_addI, q_sub, q_neg, q_cmp, q_ixL, q_ixT, q_lenL, q_lenT, q_int, q_max, q_min, q_tupL, q_lstT, q_isB, q_slL, q_slT, q_eqS, q_neS, q_tn, q_at0, q_rev, q_isNB, q_tupT, q_lstL, none_t, a1, b1, i1, nv, cv, Bool.not_false]
/-- the law's look at the branches -/
theorem lbranch_loop {cs xs ys : List PyData} {d f : Nat} {us : List Nat} {c : Nat} {a : PyData} (ha : valB a = true) (ea : atI xs (c : Int) = some a) (T : PyData) (f4 f5 f6 : Option Wv)
    (ih : ∀ t, TreeS cs d us t → ∀ e : En, callV 3 (fn__law_compare f) [.d t, .d (.tuple xs), .d (.tuple ys)] e = .ok (.d (.int (sayT f t xs ys))) e) :
    ∀ (bs : List (PyData × PyData)) (r : PyData) (u7 u8 : Option Wv), (∀ b ∈ bs, b.1 ∈ TV ∧ TreeS cs d us b.2) → notBrw (some u7) = true → notBrw (some u8) = true →
    ∃ u7' u8', forGo (tgTup [7, 8]) (lp_law_compare_2 (fn__law_compare f)) (bs.map tD2) [some (.d T), some (.d (.tuple xs)), some (.d (.tuple ys)), some (.d (nI c)), f4, f5, f6, u7, u8] = (match selB bs r a with
      | some t => .rt (.d (.int (sayT f t xs ys))) [some (.d T), some (.d (.tuple xs)), some (.d (.tuple ys)), some (.d (nI c)), f4, f5, f6, u7', u8']
      | none => .nx [some (.d T), some (.d (.tuple xs)), some (.d (.tuple ys)), some (.d (nI c)), f4, f5, f6, u7', u8'])
  | [], r, u7, u8, _, _, _ => ⟨u7, u8, rfl⟩
  | b :: bs, r, u7, u8, hv, h2, h3 => by
    obtain ⟨b1, b2⟩ := hv b List.mem_cons_self
    have ev := eq_val (tv_val _ b1) ha
    by_cases q : valK b.1 = valK a
    · refine ⟨some (.d b.1), some (.d b.2), ?_⟩
      rw [show selB (b :: bs) r a = some b.2 from if_pos q, List.map_cons]
      rw [decide_eq_true q] at ev
      have cv := ih b.2 b2
      unfold lp_law_compare_2
      simp only [z_ob, z_om, z_b1, z_b2, z_be1, z_be2, z_bs1, z_bs2, z_bs3, z_bl1, z_bl2, z_bc1, z_bc2, z_cr1, z_cr2, z_or, z_os, z_oo, z_ol, z_oB, z_name, z_sn1, z_sn2, z_sn3, z_sn5, z_sn6, z_sn7, z_sn8, z_sn4, z_rs1, z_rs2, z_rs3, z_rs4, z_sr1, z_sr2, z_sr3, z_rss0, z_rss1, z_es, z_es1, z_es2, z_est, z_e1, z_e2, z_e4, z_se1, z_se2, z_se3, z_e5, z_nb4, z_nb5, z_nb6, z_a5, z_a6, z_a7, z_nb0, z_nb1, z_nb2, z_nb3, z_a1, z_a2, z_a3, z_a4, z_c, z_u2, z_u1, z_un, z_ev0, z_ev1, z_tup, z_lst, z_dt0, z_dt1, z_d1, z_isB, z_bt, z_bf, z_st, z_sf, z_and, z_dor, z_ite, z_not, z_no, z_chain, z_isi, z_iw1, z_iw2, z_iw3, z_isN, z_notN, z_nw1, z_nw2, z_mul, z_mw1, z_mw2, z_sl, z_po0, z_po1, z_io, z_oa, z_so1, z_so2, z_up, z_su1, z_su2, z_mut, z_mo, z_mt, z_meth, z_seq, z_next, z_asg, z_if, z_ret, z_rt, z_m1, z_m2, z_m3, z_m5, z_m6, z_m7, z_sm3, z_sm4, z_f5, z_f6, z_f7, z_k5, z_r4, z_r5, z_r6, z_m4, z_sm1, z_sm2, z_drop, z_raise, z_has, z_ho, z_seti, z_sI, z_fn, z_ent, z_f1, z_f2, z_f3, z_f4, z_k0, z_k1, z_k2, z_k3, z_k4, z_call, z_r1, z_r2, z_r3, z_callB, z_for, z_bls1, z_outR, z_fg0, z_fg1, z_lp1, z_lp2, z_lp3, z_it1, z_it2, z_rn0, z_asgT, z_tt, z_ta0, z_ta1, z_par, z_two, z_setW, List.getElem?_cons_zero, List.getElem?_cons_succ, List.set_cons_zero, List.set_cons_succ, List.map_cons, List.map_nil, List.length_cons, List.length_nil, List.cons_append, List.nil_append, List.replicate, Nat.zero_add, Nat.reduceAdd, Nat.reduceSub, if_true, List.append_nil, q_addI, q_sub, q_neg, q_cmp, q_ixL, q_ixT, q_lenL, q_lenT, q_int, q_max, q_min, q_tupL, q_lstT, q_isB, q_slL, q_slT, q_eqS, q_neS, q_tn, q_at0, q_rev, q_isNB, q_tupT, q_lstL, h2, h3, ea, ev, cv]
    · obtain ⟨u7', u8', ih2⟩ := lbranch_loop ha ea T f4 f5 f6 ih bs r (some (.d b.1)) (some (.d b.2)) (fun x h => hv x (List.mem_cons_of_mem _ h)) rfl rfl
      refine ⟨u7', u8', ?_⟩
      rw [show selB (b :: bs) r a = selB bs r a from if_neg q, List.map_cons, ← ih2]
      rw [decide_eq_false q] at ev
      unfold lp_law_compare_2
      simp only [z_ob, z_om, z_b1, z_b2, z_be1, z_be2, z_bs1, z_bs2, z_bs3, z_bl1, z_bl2, z_bc1, z_bc2, z_cr1, z_cr2, z_or, z_os, z_oo, z_ol, z_oB, z_name, z_sn1, z_sn2, z_sn3, z_sn5, z_sn6, z_sn7, z_sn8, z_sn4, z_rs1, z_rs2, z_rs3, z_rs4, z_sr1, z_sr2, z_sr3, z_rss0, z_rss1, z_es, z_es1, z_es2, z_est, z_e1, z_e2, z_e4, z_se1, z_se2, z_se3, z_e5, z_nb4, z_nb5, z_nb6, z_a5, z_a6, z_a7, z_nb0, z_nb1, z_nb2, z_nb3, z_a1, z_a2, z_a3, z_a4, z_c, z_u2, z_u1, z_un, z_ev0, z_ev1, z_tup, z_lst, z_dt0, z_dt1, z_d1, z_isB, z_bt, z_bf, z_st, z_sf, z_and, z_dor, z_ite, z_not, z_no, z_chain, z_isi, z_iw1, z_iw2, z_iw3, z_isN, z_notN, z_nw1, z_nw2, z_mul, z_mw1, z_mw2, z_sl, z_po0, z_po1, z_io, z_oa, z_so1, z_so2, z_up, z_su1, z_su2, z_mut, z_mo, z_mt, z_meth, z_seq, z_next, z_asg, z_if, z_ret, z_rt, z_m1, z_m2, z_m3, z_m5, z_m6, z_m7, z_sm3, z_sm4, z_f5, z_f6, z_f7, z_k5, z_r4, z_r5, z_r6, z_m4, z_sm1, z_sm2, z_drop, z_raise, z_has, z_ho, z_seti, z_sI, z_fn, z_ent, z_f1, z_f2, z_f3, z_f4, z_k0, z_k1, z_k2, z_k3, z_k4, z_call, z_r1, z_r2, z_r3, z_callB, z_for, z_bls1, z_outR, z_fg0, z_fg1, z_lp1, z_lp2, z_lp3, z_it1, z_it2, z_rn0, z_asgT, z_tt, z_ta0, z_ta1, z_par, z_two, z_setW, List.getElem?_cons_zero, List.getElem?_cons_succ, List.set_cons_zero, List.set_cons_succ, List.map_cons, List.map_nil, List.length_cons, List.length_nil, List.cons_append, List.nil_append, List.replicate, Nat.zero_add, Nat.reduceAdd, Nat.reduceSub, if_true, List.append_nil, q_addI, q_sub, q_neg, q_cmp, q_ixL, q_ixT, q_lenL, q_lenT, q_int, q_max, q_min, q_tupL, q_lstT, q_isB, q_slL, q_slT, q_eqS, q_neS, q_tn, q_at0, q_rev, q_isNB, q_tupT, q_lstL, h2, h3, ea, ev]
theorem lcompare_tree {cs xs ys : List PyData} (hx : RowS cs.length xs) (hy : RowS cs.length ys) : ∀ (d f : Nat) (us : List Nat) (t : PyData), d < f → TreeS cs d us t →
    fn__law_compare f [.d t, .d (.tuple xs), .d (.tuple ys)] = .ok (.d (.int (sayT f t xs ys))) [.d t, .d (.tuple xs), .d (.tuple ys)]
  | d, 0, us, t, h, _ => absurd h (Nat.not_lt_zero _)
  | 0, f + 1, us, t, _, ht => by
    cases ht
    rfl
  | d + 1, f + 1, us, t, hf, ht => by
    rcases ht with rfl | ⟨c, o, bs, r, rfl, st, nu, few, nd, hb, hr⟩
    · rfl
    · have lt : c < cs.length := st.lt
      obtain ⟨a1, a2⟩ := hx.at_ lt
      obtain ⟨b1, b2⟩ := hy.at_ lt
      have nv := ne_val a2 b2
      have l2 : ∀ w, lim 2 w = some w := fun w => z_lim (by decide)
      have at_ : ∀ xs, aList (.tuple xs) = some false := fun _ => rfl
      have ih := fun t ht => call_val (k := 3) rfl (lcompare_tree hx hy d f (us ++ [c]) t (by omega) ht)
      rw [sayT_node]
      unfold fn__law_compare dn__law_compare
      by_cases q : valK (at' xs c) = valK (at' ys c)
      · rw [if_pos q]
        rw [decide_eq_true q] at nv
        obtain ⟨u7, u8, h⟩ := lbranch_loop (cs := cs) (d := d) (f := f) (us := us ++ [c]) a2 a1 (nodeD c o bs r) (some (.d (.str o))) (some (.d (.list (bs.map tD2)))) (some (.d r)) ih bs r none none hb rfl rfl
        cases q2 : selB bs r (at' xs c) with
        | none =>
          rw [q2] at h
          have h : forGo _ _ _ _ = Out.nx _ := h
          have ir := ih r hr
          unfold nodeD at *
          simp only [z_ob, z_om, z_b1, z_b2, z_be1, z_be2, z_bs1, z_bs2, z_bs3, z_bl1, z_bl2, z_bc1, z_bc2, z_cr1, z_cr2, z_or, z_os, z_oo, z_ol, z_oB, z_name, z_sn1, z_sn2, z_sn3, z_sn5, z_sn6, z_sn7, z_sn8, z_sn4, z_rs1, z_rs2, z_rs3, z_rs4, z_sr1, z_sr2, z_sr3, z_rss0, z_rss1, z_es, z_es1, z_es2, z_est, z_e1, z_e2, z_e4, z_se1, z_se2, z_se3, z_e5, z_nb4, z_nb5, z_nb6, z_a5, z_a6, z_a7, z_nb0, z_nb1, z_nb2, z_nb3, z_a1, z_a2, z_a3, z_a4, z_c, z_u2, z_u1, z_un, z_ev0, z_ev1, z_tup, z_lst, z_dt0, z_dt1, z_d1, z_isB, z_bt, z_bf, z_st, z_sf, z_and, z_dor, z_ite, z_not, z_no, z_chain, z_isi, z_iw1, z_iw2, z_iw3, z_isN, z_notN, z_nw1, z_nw2, z_mul, z_mw1, z_mw2, z_sl, z_po0, z_po1, z_io, z_oa, z_so1, z_so2, z_up, z_su1, z_su2, z_mut, z_mo, z_mt, z_meth, z_seq, z_next, z_asg, z_if, z_ret, z_rt, z_m1, z_m2, z_m3, z_m5, z_m6, z_m7, z_sm3, z_sm4, z_f5, z_f6, z_f7, z_k5, z_r4, z_r5, z_r6, z_m4, z_sm1, z_sm2, z_drop, z_raise, z_has, z_ho, z_seti, z_sI, z_fn, z_ent, z_f1, z_f2, z_f3, z_f4, z_k0, z_k1, z_k2, z_k3, z_k4, z_call, z_r1, z_r2, z_r3, z_callB, z_for, z_bls1, z_outR, z_fg0, z_fg1, z_lp1, z_lp2, z_lp3, z_it1, z_it2, z_rn0, z_asgT, z_tt, z_ta0, z_ta1, z_par, z_two, z_setW, List.getElem?_cons_zero, List.getElem?_cons_succ, List.set_cons_zero, List.set_cons_succ, List.map_cons, List.map_nil, List.length_cons, List.length_nil, List.cons_append, List.nil_append, List.replicate, Nat.zero_add, Nat.reduceAdd, Nat.reduceSub, if_true, List.append_nil, q_addI, q_sub, q_neg, q_cmp, q_ixL, q_ixT, q_lenL, q_lenT, q_int, q_max, q_min, q_tupL, q_lstT, q_isB, q_slL, q_slT, q_eqS, q_neS, q_tn, q_at0, q_rev, q_isNB, q_tupT, q_lstL, at_, none_t, a1, b1, nv, h, ir, Bool.not_true]
          rfl
        | some t =>
          rw [q2] at h
          have h : forGo _ _ _ _ = Out.rt (.d (.int (sayT f t xs ys))) _ := h
          unfold nodeD at *
          simp only [z_ob, z_om, z_b1, z_b2, z_be1, z_be2, z_bs1, z_bs2, z_bs3, z_bl1, z_bl2, z_bc1, z_bc2, z_cr1, z_cr2, z_or, z_os, z_oo, z_ol, z_oB, z_name, z_sn1, z_sn2, z_sn3, z_sn5, z_sn6, z_sn7, z_sn8, z_sn4, z_rs1, z_rs2, z_rs3, z_rs4, z_sr1, z_sr2, z_sr3, z_rss0, z_rss1, z_es, z_es1, z_es2, z_est, z_e1, z_e2, z_e4, z_se1, z_se2, z_se3, z_e5, z_nb4, z_nb5, z_nb6, z_a5, z_a6, z_a7, z_nb0, z_nb1, z_nb2, z_nb3, z_a1, z_a2, z_a3, z_a4, z_c, z_u2, z_u1, z_un, z_ev0, z_ev1, z_tup, z_lst, z_dt0, z_dt1, z_d1, z_isB, z_bt, z_bf, z_st, z_sf, z_and, z_dor, z_ite, z_not, z_no, z_chain, z_isi, z_iw1, z_iw2, z_iw3, z_isN, z_notN, z_nw1, z_nw2, z_mul, z_mw1, z_mw2, z_sl, z_po0, z_po1, z_io, z_oa, z_so1, z_so2, z_up, z_su1, z_su2, z_mut, z_mo, z_mt, z_meth, z_seq, z_next, z_asg, z_if, z_ret, z_rt, z_m1, z_m2, z_m3, z_m5, z_m6, z_m7, z_sm3, z_sm4, z_f5, z_f6, z_f7, z_k5, z_r4, z_r5, z_r6, z_m4, z_sm1, z_sm2, z_drop, z_raise, z_has, z_ho, z_seti, z_sI, z_fn, z_ent, z_f1, z_f2, z_f3, z_f4, z_k0, z_k1, z_k2, z_k3, z_k4, z_call, z_r1, z_r2, z_r3, z_callB, z_for, z_bls1, z_outR, z_fg0, z_fg1, z_lp1, z_lp2, z_lp3, z_it1, z_it2, z_rn0, z_asgT, z_tt, z_ta0, z_ta1, z_par, z_two, z_setW, List.getElem?_cons_zero, List.getElem?_cons_succ, List.set_cons_zero, List.set_cons_succ, List.map_cons, List.map_nil, List.length_cons, List.length_nil, List.cons_append, List.nil_append, List.replicate, Nat.zero_add, Nat.reduceAdd, Nat.reduceSub, if_true, List.append_nil, q_addI, q_sub, q_neg, q_cmp, q_ixL, q_ixT, q_lenL, q_lenT, q_int, q_max, q_min, q_tupL, q_lstT, q_isB, q_slL, q_slT, q_eqS, q_neS, q_tn, q_at0, q_rev, q_isNB, q_tupT, q_lstL, at_, none_t, a1, b1, nv, h, Bool.not_true]
          rfl
      · rw [if_neg q]
        rw [decide_eq_false q] at nv
        have cv := call_val (k := 3) rfl (puts_ok (step_ord st) a2 b2)
        unfold nodeD at *
        simp only [z_ob, z_om, z_b1, z_b2, z_be1, z_be2, z_bs1, z_bs2, z_bs3, z_bl1, z_bl2, z_bc1, z_bc2, z_cr1, z_cr2, z_or, z_os, z_oo, z_ol, z_oB, z_name, z_sn1, z_sn2, z_sn3, z_sn5, z_sn6, z_sn7, z_sn8, z_sn4, z_rs1, z_rs2, z_rs3, z_rs4, z_sr1, z_sr2, z_sr3, z_rss0, z_rss1, z_es, z_es1, z_es2, z_est, z_e1, z_e2, z_e4, z_se1, z_se2, z_se3, z_e5, z_nb4, z_nb5, z_nb6, z_a5, z_a6, z_a7, z_nb0, z_nb1, z_nb2, z_nb3, z_a1, z_a2, z_a3, z_a4, z_c, z_u2, z_u1, z_un, z_ev0, z_ev1, z_tup, z_lst, z_dt0, z_dt1, z_d1, z_isB, z_bt, z_bf, z_st, z_sf, z_and, z_dor, z_ite, z_not, z_no, z_chain, z_isi, z_iw1, z_iw2, z_iw3, z_isN, z_notN, z_nw1, z_nw2, z_mul, z_mw1, z_mw2, z_sl, z_po0, z_po1, z_io, z_oa, z_so1, z_so2, z_up, z_su1, z_su2, z_mut, z_mo, z_mt, z_meth, z_seq, z_next, z_asg, z_if, z_ret, z_rt, z_m1, z_m2, z_m3, z_m5, z_m6, z_m7, z_sm3, z_sm4, z_f5, z_f6, z_f7, z_k5, z_r4, z_r5, z_r6, z_m4, z_sm1, z_sm2, z_drop, z_raise, z_has, z_ho, z_seti, z_sI, z_fn, z_ent, z_f1, z_f2, z_f3, z_f4, z_k0, z_k1, z_k2, z_k3, z_k4, z_call, z_r1, z_r2, z_r3, z_callB, z_for, z_bls1, z_outR, z_fg0, z_fg1, z_lp1, z_lp2, z_lp3, z_it1, z_it2, z_rn0, z_asgT, z_tt, z_ta0, z_ta1, z_par, z_two, z_setW, List.getElem?_cons_zero, List.getElem?_cons_succ, List.set_cons_zero, List.set_cons_succ, List.map_cons, List.map_nil, List.length_cons, List.length_nil, List.cons_append, List.nil_append, List.replicate, Nat.zero_add, Nat.reduceAdd, Nat.reduceSub, if_true, List.append_nil, q_addI, q_sub, q_neg, q_cmp, q_ixL, q_ixT, q_lenL, q_lenT, q_int, q_max, q_min, q_tupL, q_lstT, q_isB, q_slL, q_slT, q_eqS, q_neS, q_tn, q_at0, q_rev, q_isNB, q_tupT, q_lstL, at_, none_t, a1, b1, nv, l2, cv, int_bool, sgn_at, Bool.not_false]
/-! ### exchanged -/
theorem sgn_not {b : Bool} : sgn (!b) = - sgn b := by cases b <;> rfl
theorem ahead_swap {o : Str} {a b : PyData} (ha : valB a = true) (hb : valB b = true) (ne : valK a ≠ valK b) : aheadB o b a = !aheadB o a b := by
  cases a with
  | none =>
    cases b with
    | none => exact absurd rfl ne
    | int j => rfl
    | _ => cases hb
  | int i =>
    cases b with
    | none => show firstB o = !(!firstB o); rw [Bool.not_not]
    | int j =>
      show decide (decide (j < i) = upB o) = !decide (decide (i < j) = upB o)
      have h : i ≠ j := fun z => ne (by rw [z])
      by_cases q : i < j
      · rw [decide_eq_true q, decide_eq_false (show ¬ j < i by omega)]
        cases upB o <;> rfl
      · rw [decide_eq_false q, decide_eq_true (show j < i by omega)]
        cases upB o <;> rfl
    | _ => cases hb
  | _ => cases ha
theorem sayF_swap {n : Nat} {xs ys : List PyData} (hx : RowS n xs) (hy : RowS n ys) : ∀ {fs : List (Nat × Str)}, (∀ p ∈ fs, p.1 < n) → sayF fs ys xs = - sayF fs xs ys
  | [], _ => rfl
  | p :: r, lt => by
    obtain ⟨_, a2⟩ := hx.at_ (lt p List.mem_cons_self)
    obtain ⟨_, b2⟩ := hy.at_ (lt p List.mem_cons_self)
    have ih := sayF_swap hx hy fun x h => lt x (List.mem_cons_of_mem _ h)
    unfold sayF at ih ⊢
    by_cases q : valK (at' xs p.1) = valK (at' ys p.1)
    · rw [show diffF (p :: r) xs ys = diffF r xs ys from if_pos q, show diffF (p :: r) ys xs = diffF r ys xs from if_pos q.symm]
      exact ih
    · rw [show diffF (p :: r) xs ys = some _ from if_neg q, show diffF (p :: r) ys xs = some _ from if_neg fun z => q z.symm, ahead_swap a2 b2 q, sgn_not]
      rfl
theorem sel_congr {a b : PyData} (h : valK a = valK b) : ∀ {bs : List (PyData × PyData)} {r : PyData}, selB bs r a = selB bs r b
  | [], _ => rfl
  | x :: bs, r => by
    show (if valK x.1 = valK a then some x.2 else selB bs r a) = (if valK x.1 = valK b then some x.2 else selB bs r b)
    rw [h, sel_congr h]
theorem sayT_swap {cs xs ys : List PyData} (hx : RowS cs.length xs) (hy : RowS cs.length ys) : ∀ (d f : Nat) (us : List Nat) (t : PyData), d < f → TreeS cs d us t → sayT f t ys xs = - sayT f t xs ys
  | d, 0, us, t, h, _ => absurd h (Nat.not_lt_zero _)
  | 0, f + 1, us, t, _, ht => by
    cases ht
    rfl
  | d + 1, f + 1, us, t, hf, ht => by
    rcases ht with rfl | ⟨c, o, bs, r, rfl, st, nu, few, nd, hb, hr⟩
    · rfl
    · have lt : c < cs.length := st.lt
      obtain ⟨_, a2⟩ := hx.at_ lt
      obtain ⟨_, b2⟩ := hy.at_ lt
      rw [sayT_node, sayT_node]
      by_cases q : valK (at' xs c) = valK (at' ys c)
      · rw [if_pos q, if_pos q.symm, sel_congr q.symm]
        exact sayT_swap hx hy d f (us ++ [c]) _ (by omega) (sel_tree hb hr)
      · rw [if_neg q, if_neg fun z => q z.symm, ahead_swap a2 b2 q, sgn_not]
end Vf.Law
/-! The law, whatever the script. -/
namespace Vf.Law
open PySem PySem.Spec L2
/-- a drawn rule -/
inductive RuleS (cs : List PyData) : PyData → Prop where
  | flat (fs : List (Nat × Str)) (h : FlatS cs fs) : RuleS cs (.list (fD fs))
  | tree (t : PyData) (h : TreeS cs 4 [] t) : RuleS cs t
theorem FlatS.lts {cs : List PyData} {fs : List (Nat × Str)} (h : FlatS cs fs) : ∀ p ∈ fs, p.1 < cs.length ∧ p.2 ∈ ords := fun p hp => ⟨(h.st p hp).lt, step_ord (h.st p hp)⟩
theorem tree_shape {cs : List PyData} {d : Nat} {us : List Nat} {t : PyData} (h : TreeS cs d us t) : t = .none ∨ ∃ xs, t = .tuple xs := by
  cases d with
  | zero => exact .inl h
  | succ d =>
    rcases h with z | ⟨c, o, bs, r, z, _⟩
    · exact .inl z
    · exact .inr ⟨_, z⟩
def ruleSay (t : PyData) (xs ys : List PyData) : Int := match t with
  | .list fs => sayF (fs.filterMap fun p => match p with
    | .tuple [.int c, .str o] => some (c.toNat, o)
    | _ => none) xs ys
  | t => sayT 8 t xs ys
theorem say_flat {fs : List (Nat × Str)} {xs ys : List PyData} : ruleSay (.list (fD fs)) xs ys = sayF fs xs ys := by
  have e : ∀ fs : List (Nat × Str), (fD fs).filterMap (fun p => match p with
    | .tuple [.int c, .str o] => some (c.toNat, o)
    | _ => none) = fs := fun fs => by
    induction fs with
    | nil => rfl
    | cons p r ih =>
      show (p.1, p.2) :: (fD r).filterMap _ = _
      rw [ih]
  show sayF ((fD fs).filterMap _) xs ys = _
  rw [e]
theorem say_tree {cs : List PyData} {d : Nat} {us : List Nat} {t : PyData} (h : TreeS cs d us t) {xs ys : List PyData} : ruleSay t xs ys = sayT 8 t xs ys := by
  rcases tree_shape h with rfl | ⟨zs, rfl⟩ <;> rfl
theorem is_rule_ok {cs : List PyData} (hc : Cols cs) (l : 1 ≤ cs.length ∧ cs.length ≤ 6) {t : PyData} (h : RuleS cs t) : fn_is_rule [.d (.list cs), .d t] = .ok (.d (.bool true)) [.d (.list cs), .d t] := by
  unfold fn_is_rule dn_is_rule
  cases h with
  | flat fs hf =>
    have c1 := call_val (k := 2) rfl (flat_is hc l (x := .list (fD fs)) ((flat_nice l.2 hf).lite.mono (by decide)) (fun xs e => by cases e; unfold fD; rw [List.length_map]; have := hf.few; omega))
    rw [flat_good hf] at c1
    simp only [z_ob, z_om, z_b1, z_b2, z_be1, z_be2, z_bs1, z_bs2, z_bs3, z_bl1, z_bl2, z_bc1, z_bc2, z_cr1, z_cr2, z_or, z_os, z_oo, z_ol, z_oB, z_name, z_sn1, z_sn2, z_sn3, z_sn5, z_sn6, z_sn7, z_sn8, z_sn4, z_rs1, z_rs2, z_rs3, z_rs4, z_sr1, z_sr2, z_sr3, z_rss0, z_rss1, z_es, z_es1, z_es2, z_est, z_e1, z_e2, z_e4, z_se1, z_se2, z_se3, z_e5, z_nb4, z_nb5, z_nb6, z_a5, z_a6, z_a7, z_nb0, z_nb1, z_nb2, z_nb3, z_a1, z_a2, z_a3, z_a4, z_c, z_u2, z_u1, z_un, z_ev0, z_ev1, z_tup, z_lst, z_dt0, z_dt1, z_d1, z_isB, z_bt, z_bf, z_st, z_sf, z_and, z_dor, z_ite, z_not, z_no, z_chain, z_isi, z_iw1, z_iw2, z_iw3, z_isN, z_notN, z_nw1, z_nw2, z_mul, z_mw1, z_mw2, z_sl, z_po0, z_po1, z_io, z_oa, z_so1, z_so2, z_up, z_su1, z_su2, z_mut, z_mo, z_mt, z_meth, z_seq, z_next, z_asg, z_if, z_ret, z_rt, z_m1, z_m2, z_m3, z_m5, z_m6, z_m7, z_sm3, z_sm4, z_f5, z_f6, z_f7, z_k5, z_r4, z_r5, z_r6, z_m4, z_sm1, z_sm2, z_drop, z_raise, z_has, z_ho, z_seti, z_sI, z_fn, z_ent, z_f1, z_f2, z_f3, z_f4, z_k0, z_k1, z_k2, z_k3, z_k4, z_call, z_r1, z_r2, z_r3, z_callB, z_for, z_bls1, z_outR, z_fg0, z_fg1, z_lp1, z_lp2, z_lp3, z_it1, z_it2, z_rn0, z_asgT, z_tt, z_ta0, z_ta1, z_par, z_two, z_setW, List.getElem?_cons_zero, List.getElem?_cons_succ, List.set_cons_zero, List.set_cons_succ, List.map_cons, List.map_nil, List.length_cons, List.length_nil, List.cons_append, List.nil_append, List.replicate, Nat.zero_add, Nat.reduceAdd, Nat.reduceSub, if_true, List.append_nil, q_addI, q_sub, q_neg, q_cmp, q_ixL, q_ixT, q_lenL, q_lenT, q_int, q_max, q_min, q_tupL, q_lstT, q_isB, q_slL, q_slT, q_eqS, q_neS, q_tn, q_at0, q_rev, q_isNB, q_tupT, q_lstL, c1]
  | tree t ht =>
    have c1 := call_val (k := 2) rfl (flat_is hc l (x := t) ((tree_nice l.2 4 [] t ht).lite.mono (by decide)) (fun xs e => by
      rcases tree_shape ht with z | ⟨zs, z⟩ <;> (rw [z] at e; cases e)))
    have f0 : flatB cs t = false := by
      rcases tree_shape ht with rfl | ⟨zs, rfl⟩ <;> rfl
    have c2 := call_val (k := 2) rfl (is_tree_good hc l ht (by decide))
    rw [f0] at c1
    simp only [z_ob, z_om, z_b1, z_b2, z_be1, z_be2, z_bs1, z_bs2, z_bs3, z_bl1, z_bl2, z_bc1, z_bc2, z_cr1, z_cr2, z_or, z_os, z_oo, z_ol, z_oB, z_name, z_sn1, z_sn2, z_sn3, z_sn5, z_sn6, z_sn7, z_sn8, z_sn4, z_rs1, z_rs2, z_rs3, z_rs4, z_sr1, z_sr2, z_sr3, z_rss0, z_rss1, z_es, z_es1, z_es2, z_est, z_e1, z_e2, z_e4, z_se1, z_se2, z_se3, z_e5, z_nb4, z_nb5, z_nb6, z_a5, z_a6, z_a7, z_nb0, z_nb1, z_nb2, z_nb3, z_a1, z_a2, z_a3, z_a4, z_c, z_u2, z_u1, z_un, z_ev0, z_ev1, z_tup, z_lst, z_dt0, z_dt1, z_d1, z_isB, z_bt, z_bf, z_st, z_sf, z_and, z_dor, z_ite, z_not, z_no, z_chain, z_isi, z_iw1, z_iw2, z_iw3, z_isN, z_notN, z_nw1, z_nw2, z_mul, z_mw1, z_mw2, z_sl, z_po0, z_po1, z_io, z_oa, z_so1, z_so2, z_up, z_su1, z_su2, z_mut, z_mo, z_mt, z_meth, z_seq, z_next, z_asg, z_if, z_ret, z_rt, z_m1, z_m2, z_m3, z_m5, z_m6, z_m7, z_sm3, z_sm4, z_f5, z_f6, z_f7, z_k5, z_r4, z_r5, z_r6, z_m4, z_sm1, z_sm2, z_drop, z_raise, z_has, z_ho, z_seti, z_sI, z_fn, z_ent, z_f1, z_f2, z_f3, z_f4, z_k0, z_k1, z_k2, z_k3, z_k4, z_call, z_r1, z_r2, z_r3, z_callB, z_for, z_bls1, z_outR, z_fg0, z_fg1, z_lp1, z_lp2, z_lp3, z_it1, z_it2, z_rn0, z_asgT, z_tt, z_ta0, z_ta1, z_par, z_two, z_setW, List.getElem?_cons_zero, List.getElem?_cons_succ, List.set_cons_zero, List.set_cons_succ, List.map_cons, List.map_nil, List.length_cons, List.length_nil, List.cons_append, List.nil_append, List.replicate, Nat.zero_add, Nat.reduceAdd, Nat.reduceSub, if_true, List.append_nil, q_addI, q_sub, q_neg, q_cmp, q_ixL, q_ixT, q_lenL, q_lenT, q_int, q_max, q_min, q_tupL, q_lstT, q_isB, q_slL, q_slT, q_eqS, q_neS, q_tn, q_at0, q_rev, q_isNB, q_tupT, q_lstL, c1, c2]
theorem check_rule_ok {cs : List PyData} (hc : Cols cs) (l : 1 ≤ cs.length ∧ cs.length ≤ 6) {t : PyData} (h : RuleS cs t) : fn_check_rule [.d (.list cs), .d t] = .ok (.d .none) [.d (.list cs), .d t] := by
  have c := call_val (k := 2) rfl (is_rule_ok hc l h)
  unfold fn_check_rule dn_check_rule
  simp only [z_ob, z_om, z_b1, z_b2, z_be1, z_be2, z_bs1, z_bs2, z_bs3, z_bl1, z_bl2, z_bc1, z_bc2, z_cr1, z_cr2, z_or, z_os, z_oo, z_ol, z_oB, z_name, z_sn1, z_sn2, z_sn3, z_sn5, z_sn6, z_sn7, z_sn8, z_sn4, z_rs1, z_rs2, z_rs3, z_rs4, z_sr1, z_sr2, z_sr3, z_rss0, z_rss1, z_es, z_es1, z_es2, z_est, z_e1, z_e2, z_e4, z_se1, z_se2, z_se3, z_e5, z_nb4, z_nb5, z_nb6, z_a5, z_a6, z_a7, z_nb0, z_nb1, z_nb2, z_nb3, z_a1, z_a2, z_a3, z_a4, z_c, z_u2, z_u1, z_un, z_ev0, z_ev1, z_tup, z_lst, z_dt0, z_dt1, z_d1, z_isB, z_bt, z_bf, z_st, z_sf, z_and, z_dor, z_ite, z_not, z_no, z_chain, z_isi, z_iw1, z_iw2, z_iw3, z_isN, z_notN, z_nw1, z_nw2, z_mul, z_mw1, z_mw2, z_sl, z_po0, z_po1, z_io, z_oa, z_so1, z_so2, z_up, z_su1, z_su2, z_mut, z_mo, z_mt, z_meth, z_seq, z_next, z_asg, z_if, z_ret, z_rt, z_m1, z_m2, z_m3, z_m5, z_m6, z_m7, z_sm3, z_sm4, z_f5, z_f6, z_f7, z_k5, z_r4, z_r5, z_r6, z_m4, z_sm1, z_sm2, z_drop, z_raise, z_has, z_ho, z_seti, z_sI, z_fn, z_ent, z_f1, z_f2, z_f3, z_f4, z_k0, z_k1, z_k2, z_k3, z_k4, z_call, z_r1, z_r2, z_r3, z_callB, z_for, z_bls1, z_outR, z_fg0, z_fg1, z_lp1, z_lp2, z_lp3, z_it1, z_it2, z_rn0, z_asgT, z_tt, z_ta0, z_ta1, z_par, z_two, z_setW, List.getElem?_cons_zero, List.getElem?_cons_succ, List.set_cons_zero, List.set_cons_succ, List.map_cons, List.map_nil, List.length_cons, List.length_nil, List.cons_append, List.nil_append, List.replicate, Nat.zero_add, Nat.reduceAdd, Nat.reduceSub, if_true, List.append_nil, q_addI, q_sub, q_neg, q_cmp, q_ixL, q_ixT, q_lenL, q_lenT, q_int, q_max, q_min, q_tupL, q_lstT, q_isB, q_slL, q_slT, q_eqS, q_neS, q_tn, q_at0, q_rev, q_isNB, q_tupT, q_lstL, c, Bool.not_true]
theorem rule_says_ok {cs xs ys : List PyData} (hx : RowS cs.length xs) (hy : RowS cs.length ys) {t : PyData} (h : RuleS cs t) : fn_rule_says [.d t, .d (.tuple xs), .d (.tuple ys)] = .ok (.d (.int (ruleSay t xs ys))) [.d t, .d (.tuple xs), .d (.tuple ys)] := by
  unfold fn_rule_says dn_rule_says
  cases h with
  | flat fs hf =>
    have at_ : ∀ xs, aList (.list xs) = some true := fun _ => rfl
    have c1 := call_val (k := 3) rfl (flat_says_ok hx hy (fs := fs) fun p hp => (hf.lts p hp).1)
    rw [say_flat]
    simp only [z_ob, z_om, z_b1, z_b2, z_be1, z_be2, z_bs1, z_bs2, z_bs3, z_bl1, z_bl2, z_bc1, z_bc2, z_cr1, z_cr2, z_or, z_os, z_oo, z_ol, z_oB, z_name, z_sn1, z_sn2, z_sn3, z_sn5, z_sn6, z_sn7, z_sn8, z_sn4, z_rs1, z_rs2, z_rs3, z_rs4, z_sr1, z_sr2, z_sr3, z_rss0, z_rss1, z_es, z_es1, z_es2, z_est, z_e1, z_e2, z_e4, z_se1, z_se2, z_se3, z_e5, z_nb4, z_nb5, z_nb6, z_a5, z_a6, z_a7, z_nb0, z_nb1, z_nb2, z_nb3, z_a1, z_a2, z_a3, z_a4, z_c, z_u2, z_u1, z_un, z_ev0, z_ev1, z_tup, z_lst, z_dt0, z_dt1, z_d1, z_isB, z_bt, z_bf, z_st, z_sf, z_and, z_dor, z_ite, z_not, z_no, z_chain, z_isi, z_iw1, z_iw2, z_iw3, z_isN, z_notN, z_nw1, z_nw2, z_mul, z_mw1, z_mw2, z_sl, z_po0, z_po1, z_io, z_oa, z_so1, z_so2, z_up, z_su1, z_su2, z_mut, z_mo, z_mt, z_meth, z_seq, z_next, z_asg, z_if, z_ret, z_rt, z_m1, z_m2, z_m3, z_m5, z_m6, z_m7, z_sm3, z_sm4, z_f5, z_f6, z_f7, z_k5, z_r4, z_r5, z_r6, z_m4, z_sm1, z_sm2, z_drop, z_raise, z_has, z_ho, z_seti, z_sI, z_fn, z_ent, z_f1, z_f2, z_f3, z_f4, z_k0, z_k1, z_k2, z_k3, z_k4, z_call, z_r1, z_r2, z_r3, z_callB, z_for, z_bls1, z_outR, z_fg0, z_fg1, z_lp1, z_lp2, z_lp3, z_it1, z_it2, z_rn0, z_asgT, z_tt, z_ta0, z_ta1, z_par, z_two, z_setW, List.getElem?_cons_zero, List.getElem?_cons_succ, List.set_cons_zero, List.set_cons_succ, List.map_cons, List.map_nil, List.length_cons, List.length_nil, List.cons_append, List.nil_append, List.replicate, Nat.zero_add, Nat.reduceAdd, Nat.reduceSub, if_true, List.append_nil, q_addI, q_sub, q_neg, q_cmp, q_ixL, q_ixT, q_lenL, q_lenT, q_int, q_max, q_min, q_tupL, q_lstT, q_isB, q_slL, q_slT, q_eqS, q_neS, q_tn, q_at0, q_rev, q_isNB, q_tupT, q_lstL, at_, c1]
  | tree t ht =>
    have c1 := call_val (k := 3) rfl (tree_says_ok hx hy 4 8 [] t (by decide) ht)
    rw [say_tree ht]
    rcases tree_shape ht with rfl | ⟨zs, rfl⟩
    · simp only [z_ob, z_om, z_b1, z_b2, z_be1, z_be2, z_bs1, z_bs2, z_bs3, z_bl1, z_bl2, z_bc1, z_bc2, z_cr1, z_cr2, z_or, z_os, z_oo, z_ol, z_oB, z_name, z_sn1, z_sn2, z_sn3, z_sn5, z_sn6, z_sn7, z_sn8, z_sn4, z_rs1, z_rs2, z_rs3, z_rs4, z_sr1, z_sr2, z_sr3, z_rss0, z_rss1, z_es, z_es1, z_es2, z_est, z_e1, z_e2, z_e4, z_se1, z_se2, z_se3, z_e5, z_nb4, z_nb5, z_nb6, z_a5, z_a6, z_a7, z_nb0, z_nb1, z_nb2, z_nb3, z_a1, z_a2, z_a3, z_a4, z_c, z_u2, z_u1, z_un, z_ev0, z_ev1, z_tup, z_lst, z_dt0, z_dt1, z_d1, z_isB, z_bt, z_bf, z_st, z_sf, z_and, z_dor, z_ite, z_not, z_no, z_chain, z_isi, z_iw1, z_iw2, z_iw3, z_isN, z_notN, z_nw1, z_nw2, z_mul, z_mw1, z_mw2, z_sl, z_po0, z_po1, z_io, z_oa, z_so1, z_so2, z_up, z_su1, z_su2, z_mut, z_mo, z_mt, z_meth, z_seq, z_next, z_asg, z_if, z_ret, z_rt, z_m1, z_m2, z_m3, z_m5, z_m6, z_m7, z_sm3, z_sm4, z_f5, z_f6, z_f7, z_k5, z_r4, z_r5, z_r6, z_m4, z_sm1, z_sm2, z_drop, z_raise, z_has, z_ho, z_seti, z_sI, z_fn, z_ent, z_f1, z_f2, z_f3, z_f4, z_k0, z_k1, z_k2, z_k3, z_k4, z_call, z_r1, z_r2, z_r3, z_callB, z_for, z_bls1, z_outR, z_fg0, z_fg1, z_lp1, z_lp2, z_lp3, z_it1, z_it2, z_rn0, z_asgT, z_tt, z_ta0, z_ta1, z_par, z_two, z_setW, List.getElem?_cons_zero, List.getElem?_cons_succ, List.set_cons_zero, List.set_cons_succ, List.map_cons, List.map_nil, List.length_cons, List.length_nil, List.cons_append, List.nil_append, List.replicate, Nat.zero_add, Nat.reduceAdd, Nat.reduceSub, if_true, List.append_nil, q_addI, q_sub, q_neg, q_cmp, q_ixL, q_ixT, q_lenL, q_lenT, q_int, q_max, q_min, q_tupL, q_lstT, q_isB, q_slL, q_slT, q_eqS, q_neS, q_tn, q_at0, q_rev, q_isNB, q_tupT, q_lstL, show aList .none = some false from rfl, c1]
    · simp only [z_ob, z_om, z_b1, z_b2, z_be1, z_be2, z_bs1, z_bs2, z_bs3, z_bl1, z_bl2, z_bc1, z_bc2, z_cr1, z_cr2, z_or, z_os, z_oo, z_ol, z_oB, z_name, z_sn1, z_sn2, z_sn3, z_sn5, z_sn6, z_sn7, z_sn8, z_sn4, z_rs1, z_rs2, z_rs3, z_rs4, z_sr1, z_sr2, z_sr3, z_rss0, z_rss1, z_es, z_es1, z_es2, z_est, z_e1, z_e2, z_e4, z_se1, z_se2, z_se3, z_e5, z_nb4, z_nb5, z_nb6, z_a5, z_a6, z_a7, z_nb0, z_nb1, z_nb2, z_nb3, z_a1, z_a2, z_a3, z_a4, z_c, z_u2, z_u1, z_un, z_ev0, z_ev1, z_tup, z_lst, z_dt0, z_dt1, z_d1, z_isB, z_bt, z_bf, z_st, z_sf, z_and, z_dor, z_ite, z_not, z_no, z_chain, z_isi, z_iw1, z_iw2, z_iw3, z_isN, z_notN, z_nw1, z_nw2, z_mul, z_mw1, z_mw2, z_sl, z_po0, z_po1, z_io, z_oa, z_so1, z_so2, z_up, z_su1, z_su2, z_mut, z_mo, z_mt, z_meth, z_seq, z_next, z_asg, z_if, z_ret, z_rt, z_m1, z_m2, z_m3, z_m5, z_m6, z_m7, z_sm3, z_sm4, z_f5, z_f6, z_f7, z_k5, z_r4, z_r5, z_r6, z_m4, z_sm1, z_sm2, z_drop, z_raise, z_has, z_ho, z_seti, z_sI, z_fn, z_ent, z_f1, z_f2, z_f3, z_f4, z_k0, z_k1, z_k2, z_k3, z_k4, z_call, z_r1, z_r2, z_r3, z_callB, z_for, z_bls1, z_outR, z_fg0, z_fg1, z_lp1, z_lp2, z_lp3, z_it1, z_it2, z_rn0, z_asgT, z_tt, z_ta0, z_ta1, z_par, z_two, z_setW, List.getElem?_cons_zero, List.getElem?_cons_succ, List.set_cons_zero, List.set_cons_succ, List.map_cons, List.map_nil, List.length_cons, List.length_nil, List.cons_append, List.nil_append, List.replicate, Nat.zero_add, Nat.reduceAdd, Nat.reduceSub, if_true, List.append_nil, q_addI, q_sub, q_neg, q_cmp, q_ixL, q_ixT, q_lenL, q_lenT, q_int, q_max, q_min, q_tupL, q_lstT, q_isB, q_slL, q_slT, q_eqS, q_neS, q_tn, q_at0, q_rev, q_isNB, q_tupT, q_lstL, show aList (.tuple zs) = some false from rfl, c1]
theorem lcompare_ok {cs xs ys : List PyData} (hx : RowS cs.length xs) (hy : RowS cs.length ys) {t : PyData} (h : RuleS cs t) : fn__law_compare 8 [.d t, .d (.tuple xs), .d (.tuple ys)] = .ok (.d (.int (ruleSay t xs ys))) [.d t, .d (.tuple xs), .d (.tuple ys)] := by
  cases h with
  | flat fs hf => rw [say_flat]; exact lcompare_flat hx hy hf.lts
  | tree t ht => rw [say_tree ht]; exact lcompare_tree hx hy 4 8 [] t (by decide) ht
theorem say_swap {cs xs ys : List PyData} (hx : RowS cs.length xs) (hy : RowS cs.length ys) {t : PyData} (h : RuleS cs t) : ruleSay t ys xs = - ruleSay t xs ys := by
  cases h with
  | flat fs hf => rw [say_flat, say_flat]; exact sayF_swap hx hy fun p hp => (hf.lts p hp).1
  | tree t ht => rw [say_tree ht, say_tree ht]; exact sayT_swap hx hy 4 8 [] t (by decide) ht
theorem say_same {cs xs : List PyData} (hx : RowS cs.length xs) {t : PyData} (h : RuleS cs t) : ruleSay t xs xs = 0 := by
  have := say_swap hx hx h
  omega
theorem compare_ok {cs xs ys : List PyData} (hc : Cols cs) (l : 1 ≤ cs.length ∧ cs.length ≤ 6) (hx : RowS cs.length xs) (hy : RowS cs.length ys) {t : PyData} (h : RuleS cs t) :
    ∀ e : En, callV 4 fn_compare [.d (.list cs), .d t, .d (.tuple xs), .d (.tuple ys)] e = .ok (.d (.int (ruleSay t xs ys))) e := by
  refine call_val (k := 4) (us := [.d (.list cs), .d t, .d (.tuple xs), .d (.tuple ys)]) rfl ?_
  have c1 := call_val (k := 2) rfl (check_rule_ok hc l h)
  have c2 := call_val (k := 2) rfl (hx.check hc l)
  have c3 := call_val (k := 2) rfl (hy.check hc l)
  have c4 := call_val (k := 3) rfl (rule_says_ok hx hy h)
  unfold fn_compare dn_compare
  simp only [z_ob, z_om, z_b1, z_b2, z_be1, z_be2, z_bs1, z_bs2, z_bs3, z_bl1, z_bl2, z_bc1, z_bc2, z_cr1, z_cr2, z_or, z_os, z_oo, z_ol, z_oB, z_name, z_sn1, z_sn2, z_sn3, z_sn5, z_sn6, z_sn7, z_sn8, z_sn4, z_rs1, z_rs2, z_rs3, z_rs4, z_sr1, z_sr2, z_sr3, z_rss0, z_rss1, z_es, z_es1, z_es2, z_est, z_e1, z_e2, z_e4, z_se1, z_se2, z_se3, z_e5, z_nb4, z_nb5, z_nb6, z_a5, z_a6, z_a7, z_nb0, z_nb1, z_nb2, z_nb3, z_a1, z_a2, z_a3, z_a4, z_c, z_u2, z_u1, z_un, z_ev0, z_ev1, z_tup, z_lst, z_dt0, z_dt1, z_d1, z_isB, z_bt, z_bf, z_st, z_sf, z_and, z_dor, z_ite, z_not, z_no, z_chain, z_isi, z_iw1, z_iw2, z_iw3, z_isN, z_notN, z_nw1, z_nw2, z_mul, z_mw1, z_mw2, z_sl, z_po0, z_po1, z_io, z_oa, z_so1, z_so2, z_up, z_su1, z_su2, z_mut, z_mo, z_mt, z_meth, z_seq, z_next, z_asg, z_if, z_ret, z_rt, z_m1, z_m2, z_m3, z_m5, z_m6, z_m7, z_sm3, z_sm4, z_f5, z_f6, z_f7, z_k5, z_r4, z_r5, z_r6, z_m4, z_sm1, z_sm2, z_drop, z_raise, z_has, z_ho, z_seti, z_sI, z_fn, z_ent, z_f1, z_f2, z_f3, z_f4, z_k0, z_k1, z_k2, z_k3, z_k4, z_call, z_r1, z_r2, z_r3, z_callB, z_for, z_bls1, z_outR, z_fg0, z_fg1, z_lp1, z_lp2, z_lp3, z_it1, z_it2, z_rn0, z_asgT, z_tt, z_ta0, z_ta1, z_par, z_two, z_setW, List.getElem?_cons_zero, List.getElem?_cons_succ, List.set_cons_zero, List.set_cons_succ, List.map_cons, List.map_nil, List.length_cons, List.length_nil, List.cons_append, List.nil_append, List.replicate, Nat.zero_add, Nat.reduceAdd, Nat.reduceSub, if_true, List.append_nil, q_addI, q_sub, q_neg, q_cmp, q_ixL, q_ixT, q_lenL, q_lenT, q_int, q_max, q_min, q_tupL, q_lstT, q_isB, q_slL, q_slT, q_eqS, q_neS, q_tn, q_at0, q_rev, q_isNB, q_tupT, q_lstL, c1, c2, c3, c4]
theorem rule_nice {cs : List PyData} (l6 : cs.length ≤ 6) {t : PyData} (h : RuleS cs t) : Nice 12 20000 t := by
  cases h with
  | flat fs hf => exact (flat_nice l6 hf).mono (by decide) (by decide)
  | tree t ht => exact (tree_nice l6 4 [] t ht).mono (by decide) (by decide)
theorem cols_nice {cs : List PyData} (h : Cols cs) (l6 : cs.length ≤ 6) : Nice 2 369 (.list cs) := nice_list (n := 6) (fun c hc => good_nice (h c hc)) l6
theorem good_ok {cs xs ys : List PyData} (hc : Cols cs) (l : 1 ≤ cs.length ∧ cs.length ≤ 6) (hx : RowS cs.length xs) (hy : RowS cs.length ys) {t : PyData} (h : RuleS cs t) :
    ∀ e : En, callV 4 fn__law_good [.d (.list cs), .d t, .d (.tuple xs), .d (.tuple ys)] e = .ok (.d (.bool true)) e := by
  refine call_val (k := 4) (us := [.d (.list cs), .d t, .d (.tuple xs), .d (.tuple ys)]) rfl ?_
  have c1 := compare_ok hc l hx hy h
  have c2 := compare_ok hc l hy hx h
  have c3 := compare_ok hc l hx hx h
  rw [say_swap hx hy h] at c2
  rw [say_same hx h] at c3
  have c4 := call_val (k := 3) rfl (lcompare_ok hx hy h)
  have c5 : ∀ (v : Int) (e : En), callV 1 fn__law_whole [.d (.int v)] e = .ok (.d (.bool true)) e := fun v => call_val (k := 1) (us := [.d (.int v)]) rfl rfl
  have rr := q_repr ((nice_list (n := 4) (k := 12) (L := 20000) (all_cons ((cols_nice hc l.2).mono (by decide) (by decide)) (all_cons (rule_nice l.2 h) (all_cons ((hx.nice l.2).mono (by decide) (by decide)) (all_cons ((hy.nice l.2).mono (by decide) (by decide)) all_nil)))) (by simp)).rp (by decide) (by decide))
  have l4 : ∀ w, lim 4 w = some w := fun w => z_lim (by decide)
  have neg : (0 : Int) - ruleSay t xs ys = - ruleSay t xs ys := by omega
  unfold fn__law_good dn__law_good
  simp only [z_ob, z_om, z_b1, z_b2, z_be1, z_be2, z_bs1, z_bs2, z_bs3, z_bl1, z_bl2, z_bc1, z_bc2, z_cr1, z_cr2, z_or, z_os, z_oo, z_ol, z_oB, z_name, z_sn1, z_sn2, z_sn3, z_sn5, z_sn6, z_sn7, z_sn8, z_sn4, z_rs1, z_rs2, z_rs3, z_rs4, z_sr1, z_sr2, z_sr3, z_rss0, z_rss1, z_es, z_es1, z_es2, z_est, z_e1, z_e2, z_e4, z_se1, z_se2, z_se3, z_e5, z_nb4, z_nb5, z_nb6, z_a5, z_a6, z_a7, z_nb0, z_nb1, z_nb2, z_nb3, z_a1, z_a2, z_a3, z_a4, z_c, z_u2, z_u1, z_un, z_ev0, z_ev1, z_tup, z_lst, z_dt0, z_dt1, z_d1, z_isB, z_bt, z_bf, z_st, z_sf, z_and, z_dor, z_ite, z_not, z_no, z_chain, z_isi, z_iw1, z_iw2, z_iw3, z_isN, z_notN, z_nw1, z_nw2, z_mul, z_mw1, z_mw2, z_sl, z_po0, z_po1, z_io, z_oa, z_so1, z_so2, z_up, z_su1, z_su2, z_mut, z_mo, z_mt, z_meth, z_seq, z_next, z_asg, z_if, z_ret, z_rt, z_m1, z_m2, z_m3, z_m5, z_m6, z_m7, z_sm3, z_sm4, z_f5, z_f6, z_f7, z_k5, z_r4, z_r5, z_r6, z_m4, z_sm1, z_sm2, z_drop, z_raise, z_has, z_ho, z_seti, z_sI, z_fn, z_ent, z_f1, z_f2, z_f3, z_f4, z_k0, z_k1, z_k2, z_k3, z_k4, z_call, z_r1, z_r2, z_r3, z_callB, z_for, z_bls1, z_outR, z_fg0, z_fg1, z_lp1, z_lp2, z_lp3, z_it1, z_it2, z_rn0, z_asgT, z_tt, z_ta0, z_ta1, z_par, z_two, z_setW, List.getElem?_cons_zero, List.getElem?_cons_succ, List.set_cons_zero, List.set_cons_succ, List.map_cons, List.map_nil, List.length_cons, List.length_nil, List.cons_append, List.nil_append, List.replicate, Nat.zero_add, Nat.reduceAdd, Nat.reduceSub, if_true, List.append_nil, q_addI, q_sub, q_neg, q_cmp, q_ixL, q_ixT, q_lenL, q_lenT, q_int, q_max, q_min, q_tupL, q_lstT, q_isB, q_slL, q_slT, q_eqS, q_neS, q_tn, q_at0, q_rev, q_isNB, q_tupT, q_lstL, l4, c1, c2, c3, c4, c5, rr, q_neI, q_eqI, neg, decide_true, Bool.not_true]
theorem rules_loop {cs xs ys : List PyData} (hc : Cols cs) (l : 1 ≤ cs.length ∧ cs.length ≤ 6) (hx : RowS cs.length xs) (hy : RowS cs.length ys) (e0 e1 e2 e4 e5 e6 : Option Wv) : ∀ (L : List PyData) (u : Option Wv), (∀ t ∈ L, RuleS cs t) → notBrw (some u) = true → ∃ u', notBrw (some u') = true ∧
    forGo (tgName 9) lp_law_1 L [e0, e1, e2, some (.d (.list cs)), e4, e5, e6, some (.d (.tuple xs)), some (.d (.tuple ys)), u] = .nx [e0, e1, e2, some (.d (.list cs)), e4, e5, e6, some (.d (.tuple xs)), some (.d (.tuple ys)), u']
  | [], u, _, hu => ⟨u, hu, rfl⟩
  | t :: L, u, hr, hu => by
    obtain ⟨u', h1, h2⟩ := rules_loop hc l hx hy e0 e1 e2 e4 e5 e6 L (some (.d t)) (fun x hx => hr x (List.mem_cons_of_mem _ hx)) rfl
    refine ⟨u', h1, ?_⟩
    have g := good_ok hc l hx hy (hr t List.mem_cons_self)
    unfold lp_law_1
    unfold lp_law_1 at h2
    simp only [z_ob, z_om, z_b1, z_b2, z_be1, z_be2, z_bs1, z_bs2, z_bs3, z_bl1, z_bl2, z_bc1, z_bc2, z_cr1, z_cr2, z_or, z_os, z_oo, z_ol, z_oB, z_name, z_sn1, z_sn2, z_sn3, z_sn5, z_sn6, z_sn7, z_sn8, z_sn4, z_rs1, z_rs2, z_rs3, z_rs4, z_sr1, z_sr2, z_sr3, z_rss0, z_rss1, z_es, z_es1, z_es2, z_est, z_e1, z_e2, z_e4, z_se1, z_se2, z_se3, z_e5, z_nb4, z_nb5, z_nb6, z_a5, z_a6, z_a7, z_nb0, z_nb1, z_nb2, z_nb3, z_a1, z_a2, z_a3, z_a4, z_c, z_u2, z_u1, z_un, z_ev0, z_ev1, z_tup, z_lst, z_dt0, z_dt1, z_d1, z_isB, z_bt, z_bf, z_st, z_sf, z_and, z_dor, z_ite, z_not, z_no, z_chain, z_isi, z_iw1, z_iw2, z_iw3, z_isN, z_notN, z_nw1, z_nw2, z_mul, z_mw1, z_mw2, z_sl, z_po0, z_po1, z_io, z_oa, z_so1, z_so2, z_up, z_su1, z_su2, z_mut, z_mo, z_mt, z_meth, z_seq, z_next, z_asg, z_if, z_ret, z_rt, z_m1, z_m2, z_m3, z_m5, z_m6, z_m7, z_sm3, z_sm4, z_f5, z_f6, z_f7, z_k5, z_r4, z_r5, z_r6, z_m4, z_sm1, z_sm2, z_drop, z_raise, z_has, z_ho, z_seti, z_sI, z_fn, z_ent, z_f1, z_f2, z_f3, z_f4, z_k0, z_k1, z_k2, z_k3, z_k4, z_call, z_r1, z_r2, z_r3, z_callB, z_for, z_bls1, z_outR, z_fg0, z_fg1, z_lp1, z_lp2, z_lp3, z_it1, z_it2, z_rn0, z_asgT, z_tt, z_ta0, z_ta1, z_par, z_two, z_setW, List.getElem?_cons_zero, List.getElem?_cons_succ, List.set_cons_zero, List.set_cons_succ, List.map_cons, List.map_nil, List.length_cons, List.length_nil, List.cons_append, List.nil_append, List.replicate, Nat.zero_add, Nat.reduceAdd, Nat.reduceSub, if_true, List.append_nil, q_addI, q_sub, q_neg, q_cmp, q_ixL, q_ixT, q_lenL, q_lenT, q_int, q_max, q_min, q_tupL, q_lstT, q_isB, q_slL, q_slT, q_eqS, q_neS, q_tn, q_at0, q_rev, q_isNB, q_tupT, q_lstL, hu, g, Bool.not_true]
    exact h2
theorem turns_loop {cs : List PyData} (hc : Cols cs) (l : 1 ≤ cs.length ∧ cs.length ≤ 6) {L : List PyData} (hL : ∀ t ∈ L, RuleS cs t) (S : PyData) (e1 : Option Wv) : ∀ (m : Nat) (lo n : Int) (o4 u5 u6 u7 u8 u9 : Option Wv), (o4 = some (.own L) ∨ o4 = some (.d (.list L))) → notBrw (some u5) = true → notBrw (some u6) = true → notBrw (some u7) = true → notBrw (some u8) = true → notBrw (some u9) = true →
    ∃ (n' : Int) (o4' u5' u6' u7' u8' u9' : Option Wv), (o4' = some (.own L) ∨ o4' = some (.d (.list L))) ∧ notBrw (some u5') = true ∧ notBrw (some u6') = true ∧ notBrw (some u7') = true ∧ notBrw (some u8') = true ∧ notBrw (some u9') = true ∧
    forGo (tgName 5) lp_law_2 (rngD lo m) [some (.d S), e1, some (.own [.int n]), some (.d (.list cs)), o4, u5, u6, u7, u8, u9] = .nx [some (.d S), e1, some (.own [.int n']), some (.d (.list cs)), o4', u5', u6', u7', u8', u9']
  | 0, lo, n, o4, u5, u6, u7, u8, u9, ho, h5, h6, h7, h8, h9 => ⟨n, o4, u5, u6, u7, u8, u9, ho, h5, h6, h7, h8, h9, rfl⟩
  | m + 1, lo, n, o4, u5, u6, u7, u8, u9, ho, h5, h6, h7, h8, h9 => by
    have t1 := fun (o4 u5 u6 u7 u8 u9 : Option Wv) => cbO (k := 2) (i := 2) (e := [some (.d S), e1, some (.own [.int n]), some (.d (.list cs)), o4, u5, u6, u7, u8, u9]) rfl rfl (take_ok n 2 (by decide)) (.inl rfl)
    obtain ⟨n1, xs, hx, hr⟩ := row_ok' (n / 2) (n % 2) l.2
    have t2 := fun (o4 u5 u6 u7 u8 u9 : Option Wv) => cbO (k := 3) (i := 2) (e := [some (.d S), e1, some (.own [.int (n / 2)]), some (.d (.list cs)), o4, u5, u6, u7, u8, u9]) rfl rfl hr (.inl rfl)
    obtain ⟨n2, ys, hy, hn⟩ := near_ok n1 (n % 2) hx l.2
    have t3 := fun (o4 u5 u6 u7 u8 u9 : Option Wv) => cbO (k := 3) (i := 2) (e := [some (.d S), e1, some (.own [.int n1]), some (.d (.list cs)), o4, u5, u6, u7, u8, u9]) rfl rfl hn (.inl rfl)
    obtain ⟨u9', k9, w9⟩ := rules_loop hc l hx hy (some (.d S)) e1 (some (.own [.int n2])) (some (.d (.list L))) (some (.d (.int lo))) (some (.d (.int (n % 2)))) L u9 hL h9
    obtain ⟨n', o4', a5, a6, a7, a8, a9, q1, q2, q3, q4, q5, q6, ih⟩ := turns_loop hc l hL S e1 m (lo + 1) n2 (some (.d (.list L))) (some (.d (.int lo))) (some (.d (.int (n % 2)))) (some (.d (.tuple xs))) (some (.d (.tuple ys))) u9' (.inr rfl) rfl rfl rfl rfl k9
    refine ⟨n', o4', a5, a6, a7, a8, a9, q1, q2, q3, q4, q5, q6, ?_⟩
    rw [z_rn1]
    unfold lp_law_2
    unfold lp_law_2 at ih
    rcases ho with rfl | rfl
    · simp only [z_ob, z_om, z_b1, z_b2, z_be1, z_be2, z_bs1, z_bs2, z_bs3, z_bl1, z_bl2, z_bc1, z_bc2, z_cr1, z_cr2, z_or, z_os, z_oo, z_ol, z_oB, z_name, z_sn1, z_sn2, z_sn3, z_sn5, z_sn6, z_sn7, z_sn8, z_sn4, z_rs1, z_rs2, z_rs3, z_rs4, z_sr1, z_sr2, z_sr3, z_rss0, z_rss1, z_es, z_es1, z_es2, z_est, z_e1, z_e2, z_e4, z_se1, z_se2, z_se3, z_e5, z_nb4, z_nb5, z_nb6, z_a5, z_a6, z_a7, z_nb0, z_nb1, z_nb2, z_nb3, z_a1, z_a2, z_a3, z_a4, z_c, z_u2, z_u1, z_un, z_ev0, z_ev1, z_tup, z_lst, z_dt0, z_dt1, z_d1, z_isB, z_bt, z_bf, z_st, z_sf, z_and, z_dor, z_ite, z_not, z_no, z_chain, z_isi, z_iw1, z_iw2, z_iw3, z_isN, z_notN, z_nw1, z_nw2, z_mul, z_mw1, z_mw2, z_sl, z_po0, z_po1, z_io, z_oa, z_so1, z_so2, z_up, z_su1, z_su2, z_mut, z_mo, z_mt, z_meth, z_seq, z_next, z_asg, z_if, z_ret, z_rt, z_m1, z_m2, z_m3, z_m5, z_m6, z_m7, z_sm3, z_sm4, z_f5, z_f6, z_f7, z_k5, z_r4, z_r5, z_r6, z_m4, z_sm1, z_sm2, z_drop, z_raise, z_has, z_ho, z_seti, z_sI, z_fn, z_ent, z_f1, z_f2, z_f3, z_f4, z_k0, z_k1, z_k2, z_k3, z_k4, z_call, z_r1, z_r2, z_r3, z_callB, z_for, z_bls1, z_outR, z_fg0, z_fg1, z_lp1, z_lp2, z_lp3, z_it1, z_it2, z_rn0, z_asgT, z_tt, z_ta0, z_ta1, z_par, z_two, z_setW, List.getElem?_cons_zero, List.getElem?_cons_succ, List.set_cons_zero, List.set_cons_succ, List.map_cons, List.map_nil, List.length_cons, List.length_nil, List.cons_append, List.nil_append, List.replicate, Nat.zero_add, Nat.reduceAdd, Nat.reduceSub, if_true, List.append_nil, q_addI, q_sub, q_neg, q_cmp, q_ixL, q_ixT, q_lenL, q_lenT, q_int, q_max, q_min, q_tupL, q_lstT, q_isB, q_slL, q_slT, q_eqS, q_neS, q_tn, q_at0, q_rev, q_isNB, q_tupT, q_lstL, h5, h6, h7, h8, t1, t2, t3, w9]
      exact ih
    · simp only [z_ob, z_om, z_b1, z_b2, z_be1, z_be2, z_bs1, z_bs2, z_bs3, z_bl1, z_bl2, z_bc1, z_bc2, z_cr1, z_cr2, z_or, z_os, z_oo, z_ol, z_oB, z_name, z_sn1, z_sn2, z_sn3, z_sn5, z_sn6, z_sn7, z_sn8, z_sn4, z_rs1, z_rs2, z_rs3, z_rs4, z_sr1, z_sr2, z_sr3, z_rss0, z_rss1, z_es, z_es1, z_es2, z_est, z_e1, z_e2, z_e4, z_se1, z_se2, z_se3, z_e5, z_nb4, z_nb5, z_nb6, z_a5, z_a6, z_a7, z_nb0, z_nb1, z_nb2, z_nb3, z_a1, z_a2, z_a3, z_a4, z_c, z_u2, z_u1, z_un, z_ev0, z_ev1, z_tup, z_lst, z_dt0, z_dt1, z_d1, z_isB, z_bt, z_bf, z_st, z_sf, z_and, z_dor, z_ite, z_not, z_no, z_chain, z_isi, z_iw1, z_iw2, z_iw3, z_isN, z_notN, z_nw1, z_nw2, z_mul, z_mw1, z_mw2, z_sl, z_po0, z_po1, z_io, z_oa, z_so1, z_so2, z_up, z_su1, z_su2, z_mut, z_mo, z_mt, z_meth, z_seq, z_next, z_asg, z_if, z_ret, z_rt, z_m1, z_m2, z_m3, z_m5, z_m6, z_m7, z_sm3, z_sm4, z_f5, z_f6, z_f7, z_k5, z_r4, z_r5, z_r6, z_m4, z_sm1, z_sm2, z_drop, z_raise, z_has, z_ho, z_seti, z_sI, z_fn, z_ent, z_f1, z_f2, z_f3, z_f4, z_k0, z_k1, z_k2, z_k3, z_k4, z_call, z_r1, z_r2, z_r3, z_callB, z_for, z_bls1, z_outR, z_fg0, z_fg1, z_lp1, z_lp2, z_lp3, z_it1, z_it2, z_rn0, z_asgT, z_tt, z_ta0, z_ta1, z_par, z_two, z_setW, List.getElem?_cons_zero, List.getElem?_cons_succ, List.set_cons_zero, List.set_cons_succ, List.map_cons, List.map_nil, List.length_cons, List.length_nil, List.cons_append, List.nil_append, List.replicate, Nat.zero_add, Nat.reduceAdd, Nat.reduceSub, if_true, List.append_nil, q_addI, q_sub, q_neg, q_cmp, q_ixL, q_ixT, q_lenL, q_lenT, q_int, q_max, q_min, q_tupL, q_lstT, q_isB, q_slL, q_slT, q_eqS, q_neS, q_tn, q_at0, q_rev, q_isNB, q_tupT, q_lstL, h5, h6, h7, h8, t1, t2, t3, w9]
      exact ih
theorem law_loop (ns : List Int) : ∀ (m lo : Nat) (u1 u2 u3 u4 u5 u6 u7 u8 u9 : Option Wv), lo + m ≤ 10 → notBrw (some u1) = true → notBrw (some u2) = true → notBrw (some u3) = true → notBrw (some u4) = true → notBrw (some u5) = true → notBrw (some u6) = true → notBrw (some u7) = true → notBrw (some u8) = true → notBrw (some u9) = true →
    ∃ u1' u2' u3' u4' u5' u6' u7' u8' u9', forGo (tgName 1) lp_law_3 (rngD (lo : Int) m) [some (.d (.list (ns.map PyData.int))), u1, u2, u3, u4, u5, u6, u7, u8, u9] = .nx [some (.d (.list (ns.map PyData.int))), u1', u2', u3', u4', u5', u6', u7', u8', u9']
  | 0, lo, u1, u2, u3, u4, u5, u6, u7, u8, u9, _, _, _, _, _, _, _, _, _, _ => ⟨u1, u2, u3, u4, u5, u6, u7, u8, u9, rfl⟩
  | m + 1, lo, u1, u2, u3, u4, u5, u6, u7, u8, u9, hl, h1, h2, h3, h4, h5, h6, h7, h8, h9 => by
    obtain ⟨n, hp⟩ := pile_ok ns lo (by omega)
    obtain ⟨n1, cs, hc, l, hs⟩ := schema_ok n
    obtain ⟨n2, fs, hf, hw⟩ := flat_ok n1 hc l.2
    obtain ⟨n3, t, ht, hr⟩ := tree_ok hc l.2 4 8 (by decide) (by decide) n2 [] (fun _ h => nomatch h) (by decide)
    have pl := call_own (k := 2) rfl hp
    obtain ⟨S, eS⟩ : ∃ S, S = (PyData.list (ns.map PyData.int)) := ⟨_, rfl⟩
    rw [← eS] at pl
    have sc := fun (k u3 u4 u5 u6 u7 u8 u9 : Option Wv) => cbO (k := 1) (i := 2) (e := [some (.d S), k, some (.own [.int n]), u3, u4, u5, u6, u7, u8, u9]) rfl rfl hs (.inr ⟨cs, rfl⟩)
    have fl := fun (k u4 u5 u6 u7 u8 u9 : Option Wv) => cbO (k := 2) (i := 2) (e := [some (.d S), k, some (.own [.int n1]), some (.d (.list cs)), u4, u5, u6, u7, u8, u9]) rfl rfl hw (.inr ⟨fD fs, rfl⟩)
    have tr := fun (k u4 u5 u6 u7 u8 u9 : Option Wv) => cbO (k := 4) (i := 2) (ws := [.d (.list cs), .d (.list []), .d (.int 4)]) (e := [some (.d S), k, some (.own [.int n2]), some (.d (.list cs)), u4, u5, u6, u7, u8, u9]) rfl rfl hr (.inl rfl)
    have hL : ∀ x ∈ ([.list (fD fs), t, .none, .list []] : List PyData), RuleS cs x := all_cons (.flat fs hf) <| all_cons (.tree t ht) <| all_cons (.tree _ .none_) <| all_cons (.flat [] ⟨List.Pairwise.nil, (fun _ h => by cases h), Nat.zero_le _⟩) all_nil
    obtain ⟨n4, v4, v5, v6, v7, v8, v9, k4, k5, k6, k7, k8, k9, w⟩ := turns_loop hc l hL S (some (.d (.int (lo : Int)))) 8 0 n3 (some (.own [.list (fD fs), t, .none, .list []])) u5 u6 u7 u8 u9 (.inl rfl) h5 h6 h7 h8 h9
    have run := (for_R (fs := [dC (.int 8)]) (e := [some (.d S), some (.d (.int (lo : Int))), some (.own [.int n3]), some (.d (.list cs)), some (.own [.list (fD fs), t, .none, .list []]), u5, u6, u7, u8, u9]) (tg := tgName 5) (s := lp_law_2) rfl (rng_nat (c := 8) (by decide))).trans w
    have b4 : notBrw (some v4) = true := by rcases k4 with rfl | rfl <;> rfl
    obtain ⟨a1, a2, a3, a4, a5, a6, a7, a8, a9, ih⟩ := law_loop ns m (lo + 1) (some (.d (.int (lo : Int)))) (some (.own [.int n4])) (some (.d (.list cs))) v4 v5 v6 v7 v8 v9 (by omega) rfl rfl rfl b4 k5 k6 k7 k8 k9
    refine ⟨a1, a2, a3, a4, a5, a6, a7, a8, a9, ?_⟩
    rw [← eS] at ih ⊢
    rw [z_rn1, z_fg1, q_tn, z_setW, List.getElem?_cons_succ, List.getElem?_cons_zero, if_pos h1, z_oo]
    rw [show ((lo : Int) + 1) = ((lo + 1 : Nat) : Int) by omega]
    have l0 : ∀ w, lim 0 w = some w := fun w => z_lim (by decide)
    have l4 : ∀ w, lim 4 w = some w := fun w => z_lim (by decide)
    unfold lp_law_3
    unfold lp_law_3 at ih
    simp only [z_ob, z_om, z_b1, z_b2, z_be1, z_be2, z_bs1, z_bs2, z_bs3, z_bl1, z_bl2, z_bc1, z_bc2, z_cr1, z_cr2, z_or, z_os, z_oo, z_ol, z_oB, z_name, z_sn1, z_sn2, z_sn3, z_sn5, z_sn6, z_sn7, z_sn8, z_sn4, z_rs1, z_rs2, z_rs3, z_rs4, z_sr1, z_sr2, z_sr3, z_rss0, z_rss1, z_es, z_es1, z_es2, z_est, z_e1, z_e2, z_e4, z_se1, z_se2, z_se3, z_e5, z_nb4, z_nb5, z_nb6, z_a5, z_a6, z_a7, z_nb0, z_nb1, z_nb2, z_nb3, z_a1, z_a2, z_a3, z_a4, z_c, z_u2, z_u1, z_un, z_ev0, z_ev1, z_tup, z_lst, z_dt0, z_dt1, z_d1, z_isB, z_bt, z_bf, z_st, z_sf, z_and, z_dor, z_ite, z_not, z_no, z_chain, z_isi, z_iw1, z_iw2, z_iw3, z_isN, z_notN, z_nw1, z_nw2, z_mul, z_mw1, z_mw2, z_sl, z_po0, z_po1, z_io, z_oa, z_so1, z_so2, z_up, z_su1, z_su2, z_mut, z_mo, z_mt, z_meth, z_seq, z_next, z_asg, z_if, z_ret, z_rt, z_m1, z_m2, z_m3, z_m5, z_m6, z_m7, z_sm3, z_sm4, z_f5, z_f6, z_f7, z_k5, z_r4, z_r5, z_r6, z_m4, z_sm1, z_sm2, z_drop, z_raise, z_has, z_ho, z_seti, z_sI, z_fn, z_ent, z_f1, z_f2, z_f3, z_f4, z_k0, z_k1, z_k2, z_k3, z_k4, z_call, z_r1, z_r2, z_r3, z_callB, z_for, z_bls1, z_outR, z_fg0, z_fg1, z_lp1, z_lp2, z_lp3, z_it1, z_it2, z_rn0, z_asgT, z_tt, z_ta0, z_ta1, z_par, z_two, z_setW, List.getElem?_cons_zero, List.getElem?_cons_succ, List.set_cons_zero, List.set_cons_succ, List.map_cons, List.map_nil, List.length_cons, List.length_nil, List.cons_append, List.nil_append, List.replicate, Nat.zero_add, Nat.reduceAdd, Nat.reduceSub, if_true, List.append_nil, q_addI, q_sub, q_neg, q_cmp, q_ixL, q_ixT, q_lenL, q_lenT, q_int, q_max, q_min, q_tupL, q_lstT, q_isB, q_slL, q_slT, q_eqS, q_neS, q_tn, q_at0, q_rev, q_isNB, q_tupT, q_lstL, h2, h3, h4, pl, sc, fl, tr, l0, l4, run]
    exact ih
/-- how many turns -/
theorem turns8 {l : Nat} : ∃ c : Nat, c ≤ 10 ∧ (if (if (8 : Int) < (l : Int) then 8 else (l : Int)) > 2 then (if (8 : Int) < (l : Int) then 8 else (l : Int)) else 2) = (c : Int) := by
  by_cases h : (8 : Int) < (l : Int)
  · exact ⟨8, by decide, by rw [if_pos h]; rfl⟩
  · rw [if_neg h]
    by_cases k : (l : Int) > 2
    · exact ⟨l, by omega, by rw [if_pos k]⟩
    · exact ⟨2, by decide, by rw [if_neg k]; rfl⟩
theorem law_ok : LawD fn_law := by
  intro ns few
  have len : (ns.map PyData.int).length = ns.length := List.length_map ..
  obtain ⟨c, c10, hc⟩ := turns8 (l := ns.length)
  have ev : evs [dUn opMax [dC (.int 2), dUn opMin [dUn opLen [dName 0], dC (.int 8)]]] [some (.d (.list (ns.map PyData.int))), none, none, none, none, none, none, none, none, none] = .ok [.d (.int (c : Int))] [some (.d (.list (ns.map PyData.int))), none, none, none, none, none, none, none, none, none] := by
    simp only [z_ob, z_om, z_b1, z_b2, z_be1, z_be2, z_bs1, z_bs2, z_bs3, z_bl1, z_bl2, z_bc1, z_bc2, z_cr1, z_cr2, z_or, z_os, z_oo, z_ol, z_oB, z_name, z_sn1, z_sn2, z_sn3, z_sn5, z_sn6, z_sn7, z_sn8, z_sn4, z_rs1, z_rs2, z_rs3, z_rs4, z_sr1, z_sr2, z_sr3, z_rss0, z_rss1, z_es, z_es1, z_es2, z_est, z_e1, z_e2, z_e4, z_se1, z_se2, z_se3, z_e5, z_nb4, z_nb5, z_nb6, z_a5, z_a6, z_a7, z_nb0, z_nb1, z_nb2, z_nb3, z_a1, z_a2, z_a3, z_a4, z_c, z_u2, z_u1, z_un, z_ev0, z_ev1, z_tup, z_lst, z_dt0, z_dt1, z_d1, z_isB, z_bt, z_bf, z_st, z_sf, z_and, z_dor, z_ite, z_not, z_no, z_chain, z_isi, z_iw1, z_iw2, z_iw3, z_isN, z_notN, z_nw1, z_nw2, z_mul, z_mw1, z_mw2, z_sl, z_po0, z_po1, z_io, z_oa, z_so1, z_so2, z_up, z_su1, z_su2, z_mut, z_mo, z_mt, z_meth, z_seq, z_next, z_asg, z_if, z_ret, z_rt, z_m1, z_m2, z_m3, z_m5, z_m6, z_m7, z_sm3, z_sm4, z_f5, z_f6, z_f7, z_k5, z_r4, z_r5, z_r6, z_m4, z_sm1, z_sm2, z_drop, z_raise, z_has, z_ho, z_seti, z_sI, z_fn, z_ent, z_f1, z_f2, z_f3, z_f4, z_k0, z_k1, z_k2, z_k3, z_k4, z_call, z_r1, z_r2, z_r3, z_callB, z_for, z_bls1, z_outR, z_fg0, z_fg1, z_lp1, z_lp2, z_lp3, z_it1, z_it2, z_rn0, z_asgT, z_tt, z_ta0, z_ta1, z_par, z_two, z_setW, List.getElem?_cons_zero, List.getElem?_cons_succ, List.set_cons_zero, List.set_cons_succ, List.map_cons, List.map_nil, List.length_cons, List.length_nil, List.cons_append, List.nil_append, List.replicate, Nat.zero_add, Nat.reduceAdd, Nat.reduceSub, if_true, List.append_nil, q_addI, q_sub, q_neg, q_cmp, q_ixL, q_ixT, q_lenL, q_lenT, q_int, q_max, q_min, q_tupL, q_lstT, q_isB, q_slL, q_slT, q_eqS, q_neS, q_tn, q_at0, q_rev, q_isNB, q_tupT, q_lstL, len, hc]
  obtain ⟨a1, a2, a3, a4, a5, a6, a7, a8, a9, run⟩ := law_loop ns c 0 none none none none none none none none none (by omega) rfl rfl rfl rfl rfl rfl rfl rfl rfl
  have whole := (for_R (tg := tgName 1) (s := lp_law_3) ev (rng_nat (by omega))).trans run
  refine ⟨[.d (.list (ns.map PyData.int))], ?_⟩
  unfold fn_law dn_law
  simp only [z_ob, z_om, z_b1, z_b2, z_be1, z_be2, z_bs1, z_bs2, z_bs3, z_bl1, z_bl2, z_bc1, z_bc2, z_cr1, z_cr2, z_or, z_os, z_oo, z_ol, z_oB, z_name, z_sn1, z_sn2, z_sn3, z_sn5, z_sn6, z_sn7, z_sn8, z_sn4, z_rs1, z_rs2, z_rs3, z_rs4, z_sr1, z_sr2, z_sr3, z_rss0, z_rss1, z_es, z_es1, z_es2, z_est, z_e1, z_e2, z_e4, z_se1, z_se2, z_se3, z_e5, z_nb4, z_nb5, z_nb6, z_a5, z_a6, z_a7, z_nb0, z_nb1, z_nb2, z_nb3, z_a1, z_a2, z_a3, z_a4, z_c, z_u2, z_u1, z_un, z_ev0, z_ev1, z_tup, z_lst, z_dt0, z_dt1, z_d1, z_isB, z_bt, z_bf, z_st, z_sf, z_and, z_dor, z_ite, z_not, z_no, z_chain, z_isi, z_iw1, z_iw2, z_iw3, z_isN, z_notN, z_nw1, z_nw2, z_mul, z_mw1, z_mw2, z_sl, z_po0, z_po1, z_io, z_oa, z_so1, z_so2, z_up, z_su1, z_su2, z_mut, z_mo, z_mt, z_meth, z_seq, z_next, z_asg, z_if, z_ret, z_rt, z_m1, z_m2, z_m3, z_m5, z_m6, z_m7, z_sm3, z_sm4, z_f5, z_f6, z_f7, z_k5, z_r4, z_r5, z_r6, z_m4, z_sm1, z_sm2, z_drop, z_raise, z_has, z_ho, z_seti, z_sI, z_fn, z_ent, z_f1, z_f2, z_f3, z_f4, z_k0, z_k1, z_k2, z_k3, z_k4, z_call, z_r1, z_r2, z_r3, z_callB, z_for, z_bls1, z_outR, z_fg0, z_fg1, z_lp1, z_lp2, z_lp3, z_it1, z_it2, z_rn0, z_asgT, z_tt, z_ta0, z_ta1, z_par, z_two, z_setW, List.getElem?_cons_zero, List.getElem?_cons_succ, List.set_cons_zero, List.set_cons_succ, List.map_cons, List.map_nil, List.length_cons, List.length_nil, List.cons_append, List.nil_append, List.replicate, Nat.zero_add, Nat.reduceAdd, Nat.reduceSub, if_true, List.append_nil, q_addI, q_sub, q_neg, q_cmp, q_ixL, q_ixT, q_lenL, q_lenT, q_int, q_max, q_min, q_tupL, q_lstT, q_isB, q_slL, q_slT, q_eqS, q_neS, q_tn, q_at0, q_rev, q_isNB, q_tupT, q_lstL, whole]
end Vf.Law
namespace Vf.Law
open PySem PySem.Spec L2
open PyProof.Rows hiding St
def df_is_column : He.DefD := ⟨("is_column", none), "is_column", "is_column", defArgs st_is_column, defBody st_is_column, defScope st_is_column, [], []⟩
def df_is_whole : He.DefD := ⟨("is_whole", none), "is_whole", "is_whole", defArgs st_is_whole, defBody st_is_whole, defScope st_is_whole, [], []⟩
def df_tree_for : He.DefD := ⟨("tree_for", none), "tree_for", "tree_for", defArgs st_tree_for, defBody st_tree_for, defScope st_tree_for, [], []⟩
def df_order_says : He.DefD := ⟨("order_says", none), "order_says", "order_says", defArgs st_order_says, defBody st_order_says, defScope st_order_says, [], []⟩
def df__law_mixed : He.DefD := ⟨("_law_mixed", none), "_law_mixed", "_law_mixed", defArgs st__law_mixed, defBody st__law_mixed, defScope st__law_mixed, [], []⟩
def df__law_take : He.DefD := ⟨("_law_take", none), "_law_take", "_law_take", defArgs st__law_take, defBody st__law_take, defScope st__law_take, [], []⟩
def df__law_puts : He.DefD := ⟨("_law_puts", none), "_law_puts", "_law_puts", defArgs st__law_puts, defBody st__law_puts, defScope st__law_puts, [], []⟩
def df__law_whole : He.DefD := ⟨("_law_whole", none), "_law_whole", "_law_whole", defArgs st__law_whole, defBody st__law_whole, defScope st__law_whole, [], []⟩
def df_is_schema : He.DefD := ⟨("is_schema", none), "is_schema", "is_schema", defArgs st_is_schema, defBody st_is_schema, defScope st_is_schema, [], []⟩
def df_is_number_below : He.DefD := ⟨("is_number_below", none), "is_number_below", "is_number_below", defArgs st_is_number_below, defBody st_is_number_below, defScope st_is_number_below, [], []⟩
def df_is_value : He.DefD := ⟨("is_value", none), "is_value", "is_value", defArgs st_is_value, defBody st_is_value, defScope st_is_value, [], []⟩
def df_flat_says : He.DefD := ⟨("flat_says", none), "flat_says", "flat_says", defArgs st_flat_says, defBody st_flat_says, defScope st_flat_says, [], []⟩
def df_tree_says : He.DefD := ⟨("tree_says", none), "tree_says", "tree_says", defArgs st_tree_says, defBody st_tree_says, defScope st_tree_says, [], []⟩
def df__law_pile : He.DefD := ⟨("_law_pile", none), "_law_pile", "_law_pile", defArgs st__law_pile, defBody st__law_pile, defScope st__law_pile, [], []⟩
def df__law_schema : He.DefD := ⟨("_law_schema", none), "_law_schema", "_law_schema", defArgs st__law_schema, defBody st__law_schema, defScope st__law_schema, [], []⟩
def df__law_value : He.DefD := ⟨("_law_value", none), "_law_value", "_law_value", defArgs st__law_value, defBody st__law_value, defScope st__law_value, [], []⟩
def df__law_order_of : He.DefD := ⟨("_law_order_of", none), "_law_order_of", "_law_order_of", defArgs st__law_order_of, defBody st__law_order_of, defScope st__law_order_of, [], []⟩
def df__law_tree : He.DefD := ⟨("_law_tree", none), "_law_tree", "_law_tree", defArgs st__law_tree, defBody st__law_tree, defScope st__law_tree, [], []⟩
def df__law_compare : He.DefD := ⟨("_law_compare", none), "_law_compare", "_law_compare", defArgs st__law_compare, defBody st__law_compare, defScope st__law_compare, [], []⟩
def df_check_schema : He.DefD := ⟨("check_schema", none), "check_schema", "check_schema", defArgs st_check_schema, defBody st_check_schema, defScope st_check_schema, [], []⟩
def df_has_branches_form : He.DefD := ⟨("has_branches_form", none), "has_branches_form", "has_branches_form", defArgs st_has_branches_form, defBody st_has_branches_form, defScope st_has_branches_form, [], []⟩
def df__law_row : He.DefD := ⟨("_law_row", none), "_law_row", "_law_row", defArgs st__law_row, defBody st__law_row, defScope st__law_row, [], []⟩
def df__law_flat : He.DefD := ⟨("_law_flat", none), "_law_flat", "_law_flat", defArgs st__law_flat, defBody st__law_flat, defScope st__law_flat, [], []⟩
def df__law_near : He.DefD := ⟨("_law_near", none), "_law_near", "_law_near", defArgs st__law_near, defBody st__law_near, defScope st__law_near, [], []⟩
def df_is_row : He.DefD := ⟨("is_row", none), "is_row", "is_row", defArgs st_is_row, defBody st_is_row, defScope st_is_row, [], []⟩
def df_is_step : He.DefD := ⟨("is_step", none), "is_step", "is_step", defArgs st_is_step, defBody st_is_step, defScope st_is_step, [], []⟩
def df_check_row : He.DefD := ⟨("check_row", none), "check_row", "check_row", defArgs st_check_row, defBody st_check_row, defScope st_check_row, [], []⟩
def df_is_flat : He.DefD := ⟨("is_flat", none), "is_flat", "is_flat", defArgs st_is_flat, defBody st_is_flat, defScope st_is_flat, [], []⟩
def df_is_tree_below : He.DefD := ⟨("is_tree_below", none), "is_tree_below", "is_tree_below", defArgs st_is_tree_below, defBody st_is_tree_below, defScope st_is_tree_below, [], []⟩
def df_rule_says : He.DefD := ⟨("rule_says", none), "rule_says", "rule_says", defArgs st_rule_says, defBody st_rule_says, defScope st_rule_says, [], []⟩
def df_is_tree : He.DefD := ⟨("is_tree", none), "is_tree", "is_tree", defArgs st_is_tree, defBody st_is_tree, defScope st_is_tree, [], []⟩
def df_is_rule : He.DefD := ⟨("is_rule", none), "is_rule", "is_rule", defArgs st_is_rule, defBody st_is_rule, defScope st_is_rule, [], []⟩
def df_check_rule : He.DefD := ⟨("check_rule", none), "check_rule", "check_rule", defArgs st_check_rule, defBody st_check_rule, defScope st_check_rule, [], []⟩
def df_compare : He.DefD := ⟨("compare", none), "compare", "compare", defArgs st_compare, defBody st_compare, defScope st_compare, [], []⟩
def df__law_good : He.DefD := ⟨("_law_good", none), "_law_good", "_law_good", defArgs st__law_good, defBody st__law_good, defScope st__law_good, [], []⟩
def df_law : He.DefD := ⟨("law", none), "law", "law", defArgs st_law, defBody st_law, defScope st_law, [], []⟩
def fas : List He.Fa := [.free "all", .free "bool", .free "int", .free "isinstance", .free "len", .free "list", .free "max", .free "min", .free "range", .free "repr", .free "set", .free "tuple", .glo "NoSchema", .exc "NoSchema", .glo "NoRow", .exc "NoRow", .glo "NoRule", .exc "NoRule", .int "MOST_COLUMNS" 6, .glo "ORDERS", .glo "is_schema", .glo "is_column", .glo "check_schema", .glo "is_whole", .glo "is_number_below", .glo "is_value", .glo "is_row", .glo "check_row", .glo "is_step", .glo "is_flat", .glo "is_tree", .glo "is_tree_below", .glo "has_branches_form", .glo "is_rule", .glo "check_rule", .glo "compare", .glo "rule_says", .glo "flat_says", .glo "tree_says", .glo "tree_for", .glo "order_says", .glo "_law_mixed", .glo "_law_pile", .glo "_law_take", .glo "_law_schema", .glo "_law_value", .glo "_law_row", .glo "_law_order_of", .glo "_law_flat", .glo "_law_tree", .glo "_law_puts", .glo "_law_compare", .glo "_law_near", .glo "_law_whole", .glo "_law_good", .glo "law"]
def fns : List He.DefD := [df_is_column, df_is_whole, df_tree_for, df_order_says, df__law_mixed, df__law_take, df__law_puts, df__law_whole, df_is_schema, df_is_number_below, df_is_value, df_flat_says, df_tree_says, df__law_pile, df__law_schema, df__law_value, df__law_order_of, df__law_tree, df__law_compare, df_check_schema, df_has_branches_form, df__law_row, df__law_flat, df__law_near, df_is_row, df_is_step, df_check_row, df_is_flat, df_is_tree_below, df_rule_says, df_is_tree, df_is_rule, df_check_rule, df_compare, df__law_good, df_law]
def xss : Xs := [tupX "ORDERS" ((["up first", "up last", "down first", "down last"] : List Str).map He.Dv.str)]
theorem gs {K : PySem.W.Frag} {h : Heap} {mg : Str → Option Value} (X : K.In h) (G : h.Ns mainGlobals mg) (c : SaysV fas fns xss K) : Gs K mg where
  f_all := He.free_ok X G (c.d.fact 0 (by rfl))
  f_bool := He.free_ok X G (c.d.fact 1 (by rfl))
  f_int := He.free_ok X G (c.d.fact 2 (by rfl))
  f_isinstance := He.free_ok X G (c.d.fact 3 (by rfl))
  f_len := He.free_ok X G (c.d.fact 4 (by rfl))
  f_list := He.free_ok X G (c.d.fact 5 (by rfl))
  f_max := He.free_ok X G (c.d.fact 6 (by rfl))
  f_min := He.free_ok X G (c.d.fact 7 (by rfl))
  f_range := He.free_ok X G (c.d.fact 8 (by rfl))
  f_repr := He.free_ok X G (c.d.fact 9 (by rfl))
  f_set := He.free_ok X G (c.d.fact 10 (by rfl))
  f_tuple := He.free_ok X G (c.d.fact 11 (by rfl))
  x_NoSchema := exck X G (c.d.fact 12 (by rfl)) (c.d.fact 13 (by rfl))
  x_NoRow := exck X G (c.d.fact 14 (by rfl)) (c.d.fact 15 (by rfl))
  x_NoRule := exck X G (c.d.fact 16 (by rfl)) (c.d.fact 17 (by rfl))
  k_MOST_COLUMNS := He.int_ok X G (c.d.fact 18 (by rfl))
  k_ORDERS := ⟨_, He.glo_ok X G (c.d.fact 19 (by rfl)), fun F => .tup (He.tupB_ok (c.x 0) F) (dpa_strs ["up first", "up last", "down first", "down last"])⟩
  d_is_schema := He.glo_ok X G (c.d.fact 20 (by rfl))
  d_is_column := He.glo_ok X G (c.d.fact 21 (by rfl))
  d_check_schema := He.glo_ok X G (c.d.fact 22 (by rfl))
  d_is_whole := He.glo_ok X G (c.d.fact 23 (by rfl))
  d_is_number_below := He.glo_ok X G (c.d.fact 24 (by rfl))
  d_is_value := He.glo_ok X G (c.d.fact 25 (by rfl))
  d_is_row := He.glo_ok X G (c.d.fact 26 (by rfl))
  d_check_row := He.glo_ok X G (c.d.fact 27 (by rfl))
  d_is_step := He.glo_ok X G (c.d.fact 28 (by rfl))
  d_is_flat := He.glo_ok X G (c.d.fact 29 (by rfl))
  d_is_tree := He.glo_ok X G (c.d.fact 30 (by rfl))
  d_is_tree_below := He.glo_ok X G (c.d.fact 31 (by rfl))
  d_has_branches_form := He.glo_ok X G (c.d.fact 32 (by rfl))
  d_is_rule := He.glo_ok X G (c.d.fact 33 (by rfl))
  d_check_rule := He.glo_ok X G (c.d.fact 34 (by rfl))
  d_compare := He.glo_ok X G (c.d.fact 35 (by rfl))
  d_rule_says := He.glo_ok X G (c.d.fact 36 (by rfl))
  d_flat_says := He.glo_ok X G (c.d.fact 37 (by rfl))
  d_tree_says := He.glo_ok X G (c.d.fact 38 (by rfl))
  d_tree_for := He.glo_ok X G (c.d.fact 39 (by rfl))
  d_order_says := He.glo_ok X G (c.d.fact 40 (by rfl))
  d__law_mixed := He.glo_ok X G (c.d.fact 41 (by rfl))
  d__law_pile := He.glo_ok X G (c.d.fact 42 (by rfl))
  d__law_take := He.glo_ok X G (c.d.fact 43 (by rfl))
  d__law_schema := He.glo_ok X G (c.d.fact 44 (by rfl))
  d__law_value := He.glo_ok X G (c.d.fact 45 (by rfl))
  d__law_row := He.glo_ok X G (c.d.fact 46 (by rfl))
  d__law_order_of := He.glo_ok X G (c.d.fact 47 (by rfl))
  d__law_flat := He.glo_ok X G (c.d.fact 48 (by rfl))
  d__law_tree := He.glo_ok X G (c.d.fact 49 (by rfl))
  d__law_puts := He.glo_ok X G (c.d.fact 50 (by rfl))
  d__law_compare := He.glo_ok X G (c.d.fact 51 (by rfl))
  d__law_near := He.glo_ok X G (c.d.fact 52 (by rfl))
  d__law_whole := He.glo_ok X G (c.d.fact 53 (by rfl))
  d__law_good := He.glo_ok X G (c.d.fact 54 (by rfl))
  d_law := He.glo_ok X G (c.d.fact 55 (by rfl))
section
variable {P : Program} {w : World} {K : PySem.W.Frag} {mg : Str → Option Value} {base : Heap}
theorem the_is_column (g : Gs K mg) (c : SaysV fas fns xss K) : Has P w K mg base 1 "is_column" ["thing"] fn_is_column := has_is_column g (c.d.def_ 0 (d := df_is_column) (by rfl)) 
theorem the_is_whole (g : Gs K mg) (c : SaysV fas fns xss K) : Has P w K mg base 1 "is_whole" ["thing"] fn_is_whole := has_is_whole g (c.d.def_ 1 (d := df_is_whole) (by rfl)) 
theorem the_tree_for (g : Gs K mg) (c : SaysV fas fns xss K) : Has P w K mg base 1 "tree_for" ["tree", "value"] fn_tree_for := has_tree_for g (c.d.def_ 2 (d := df_tree_for) (by rfl)) 
theorem the_order_says (g : Gs K mg) (c : SaysV fas fns xss K) : Has P w K mg base 1 "order_says" ["order", "one", "other"] fn_order_says := has_order_says g (c.d.def_ 3 (d := df_order_says) (by rfl)) 
theorem the__law_mixed (g : Gs K mg) (c : SaysV fas fns xss K) : Has P w K mg base 1 "_law_mixed" ["_law_cell", "_law_k"] fn__law_mixed := has__law_mixed g (c.d.def_ 4 (d := df__law_mixed) (by rfl)) 
theorem the__law_take (g : Gs K mg) (c : SaysV fas fns xss K) : Has P w K mg base 1 "_law_take" ["_law_pile_here", "_law_size"] fn__law_take := has__law_take g (c.d.def_ 5 (d := df__law_take) (by rfl)) 
theorem the__law_puts (g : Gs K mg) (c : SaysV fas fns xss K) : Has P w K mg base 1 "_law_puts" ["_law_order", "_law_one", "_law_other"] fn__law_puts := has__law_puts g (c.d.def_ 6 (d := df__law_puts) (by rfl)) 
theorem the__law_whole (g : Gs K mg) (c : SaysV fas fns xss K) : Has P w K mg base 1 "_law_whole" ["_law_thing"] fn__law_whole := has__law_whole g (c.d.def_ 7 (d := df__law_whole) (by rfl)) 
theorem the_is_schema (g : Gs K mg) (c : SaysV fas fns xss K) : Has P w K mg base 2 "is_schema" ["thing"] fn_is_schema := has_is_schema g (c.d.def_ 8 (d := df_is_schema) (by rfl)) (the_is_column g c)
theorem the_is_number_below (g : Gs K mg) (c : SaysV fas fns xss K) : Has P w K mg base 2 "is_number_below" ["many", "thing"] fn_is_number_below := has_is_number_below g (c.d.def_ 9 (d := df_is_number_below) (by rfl)) (the_is_whole g c)
theorem the_is_value (g : Gs K mg) (c : SaysV fas fns xss K) : Has P w K mg base 2 "is_value" ["thing"] fn_is_value := has_is_value g (c.d.def_ 10 (d := df_is_value) (by rfl)) (the_is_whole g c)
theorem the_flat_says (g : Gs K mg) (c : SaysV fas fns xss K) : Has P w K mg base 2 "flat_says" ["flat", "x", "y"] fn_flat_says := has_flat_says g (c.d.def_ 11 (d := df_flat_says) (by rfl)) (the_order_says g c)
theorem the_tree_says (g : Gs K mg) (c : SaysV fas fns xss K) : Has P w K mg base 9 "tree_says" ["tree", "x", "y"] (fn_tree_says 8) := has_tree_says g (c.d.def_ 12 (d := df_tree_says) (by rfl)) (the_order_says g c) (the_tree_for g c) 8
theorem the__law_pile (g : Gs K mg) (c : SaysV fas fns xss K) : Has P w K mg base 2 "_law_pile" ["_law_script", "_law_k"] fn__law_pile := has__law_pile g (c.d.def_ 13 (d := df__law_pile) (by rfl)) (the__law_mixed g c)
theorem the__law_schema (g : Gs K mg) (c : SaysV fas fns xss K) : Has P w K mg base 2 "_law_schema" ["_law_pile_here"] fn__law_schema := has__law_schema g (c.d.def_ 14 (d := df__law_schema) (by rfl)) (the__law_take g c)
theorem the__law_value (g : Gs K mg) (c : SaysV fas fns xss K) : Has P w K mg base 2 "_law_value" ["_law_pile_here", "_law_wide"] fn__law_value := has__law_value g (c.d.def_ 15 (d := df__law_value) (by rfl)) (the__law_take g c)
theorem the__law_order_of (g : Gs K mg) (c : SaysV fas fns xss K) : Has P w K mg base 2 "_law_order_of" ["_law_pile_here", "_law_many"] fn__law_order_of := has__law_order_of g (c.d.def_ 16 (d := df__law_order_of) (by rfl)) (the__law_take g c)
theorem the__law_tree (g : Gs K mg) (c : SaysV fas fns xss K) : Has P w K mg base 9 "_law_tree" ["_law_pile_here", "_law_schema_here", "_law_used", "_law_depth"] (fn__law_tree 8) := has__law_tree g (c.d.def_ 17 (d := df__law_tree) (by rfl)) (the__law_take g c) 8
theorem the__law_compare (g : Gs K mg) (c : SaysV fas fns xss K) : Has P w K mg base 9 "_law_compare" ["_law_rule", "_law_x", "_law_y"] (fn__law_compare 8) := has__law_compare g (c.d.def_ 18 (d := df__law_compare) (by rfl)) (the__law_puts g c) 8
theorem the_check_schema (g : Gs K mg) (c : SaysV fas fns xss K) : Has P w K mg base 3 "check_schema" ["schema"] fn_check_schema := has_check_schema g (c.d.def_ 19 (d := df_check_schema) (by rfl)) (the_is_schema g c)
theorem the_has_branches_form (g : Gs K mg) (c : SaysV fas fns xss K) : Has P w K mg base 3 "has_branches_form" ["thing"] fn_has_branches_form := has_has_branches_form g (c.d.def_ 20 (d := df_has_branches_form) (by rfl)) (the_is_value g c)
theorem the__law_row (g : Gs K mg) (c : SaysV fas fns xss K) : Has P w K mg base 3 "_law_row" ["_law_pile_here", "_law_schema_here", "_law_wide"] fn__law_row := has__law_row g (c.d.def_ 21 (d := df__law_row) (by rfl)) (the__law_value g c)
theorem the__law_flat (g : Gs K mg) (c : SaysV fas fns xss K) : Has P w K mg base 3 "_law_flat" ["_law_pile_here", "_law_schema_here"] fn__law_flat := has__law_flat g (c.d.def_ 22 (d := df__law_flat) (by rfl)) (the__law_order_of g c) (the__law_take g c)
theorem the__law_near (g : Gs K mg) (c : SaysV fas fns xss K) : Has P w K mg base 3 "_law_near" ["_law_pile_here", "_law_row_here", "_law_wide"] fn__law_near := has__law_near g (c.d.def_ 23 (d := df__law_near) (by rfl)) (the__law_take g c) (the__law_value g c)
theorem the_is_row (g : Gs K mg) (c : SaysV fas fns xss K) : Has P w K mg base 4 "is_row" ["schema", "thing"] fn_is_row := has_is_row g (c.d.def_ 24 (d := df_is_row) (by rfl)) (the_check_schema g c) (the_is_value g c)
theorem the_is_step (g : Gs K mg) (c : SaysV fas fns xss K) : Has P w K mg base 4 "is_step" ["schema", "thing"] fn_is_step := has_is_step g (c.d.def_ 25 (d := df_is_step) (by rfl)) (the_check_schema g c) (the_is_number_below g c)
theorem the_check_row (g : Gs K mg) (c : SaysV fas fns xss K) : Has P w K mg base 5 "check_row" ["schema", "row"] fn_check_row := has_check_row g (c.d.def_ 26 (d := df_check_row) (by rfl)) (the_is_row g c)
theorem the_is_flat (g : Gs K mg) (c : SaysV fas fns xss K) : Has P w K mg base 5 "is_flat" ["schema", "thing"] fn_is_flat := has_is_flat g (c.d.def_ 27 (d := df_is_flat) (by rfl)) (the_check_schema g c) (the_is_step g c)
theorem the_is_tree_below (g : Gs K mg) (c : SaysV fas fns xss K) : Has P w K mg base 12 "is_tree_below" ["schema", "thing", "above"] (fn_is_tree_below 8) := has_is_tree_below g (c.d.def_ 28 (d := df_is_tree_below) (by rfl)) (the_has_branches_form g c) (the_is_step g c) 8
theorem the_rule_says (g : Gs K mg) (c : SaysV fas fns xss K) : Has P w K mg base 11 "rule_says" ["rule", "x", "y"] fn_rule_says := has_rule_says g (c.d.def_ 29 (d := df_rule_says) (by rfl)) (the_tree_says g c) (the_flat_says g c)
theorem the_is_tree (g : Gs K mg) (c : SaysV fas fns xss K) : Has P w K mg base 14 "is_tree" ["schema", "thing"] fn_is_tree := has_is_tree g (c.d.def_ 30 (d := df_is_tree) (by rfl)) (the_check_schema g c) (the_is_tree_below g c)
theorem the_is_rule (g : Gs K mg) (c : SaysV fas fns xss K) : Has P w K mg base 15 "is_rule" ["schema", "thing"] fn_is_rule := has_is_rule g (c.d.def_ 31 (d := df_is_rule) (by rfl)) (the_is_flat g c) (the_is_tree g c)
theorem the_check_rule (g : Gs K mg) (c : SaysV fas fns xss K) : Has P w K mg base 16 "check_rule" ["schema", "rule"] fn_check_rule := has_check_rule g (c.d.def_ 32 (d := df_check_rule) (by rfl)) (the_is_rule g c)
theorem the_compare (g : Gs K mg) (c : SaysV fas fns xss K) : Has P w K mg base 17 "compare" ["schema", "rule", "x", "y"] fn_compare := has_compare g (c.d.def_ 33 (d := df_compare) (by rfl)) (the_check_rule g c) (the_check_row g c) (the_rule_says g c)
theorem the__law_good (g : Gs K mg) (c : SaysV fas fns xss K) : Has P w K mg base 18 "_law_good" ["_law_schema_here", "_law_rule", "_law_x", "_law_y"] fn__law_good := has__law_good g (c.d.def_ 34 (d := df__law_good) (by rfl)) (the_compare g c) (the__law_whole g c) (the__law_compare g c)
end
abbrev R : PySem.W.OpenRow := PySem.W.OpenLaw.row PySem.Challenge.rw_sortclues_k05_rows_compared
abbrev hk : PySem.W.Hook := hookV 4 fas fns xss
def ob (s : PySem.W.SharedT) : Bool × He.AlD := obsV 4 fas fns xss (HandSHeadRun.getT s)
theorem ob_eq (s : PySem.W.SharedT) : ob s = hk.obs s.abs := obsV_eq (HandSHeadRun.getT_eq s)
def loose0 : List Str := ["__name__", "SortError", "NoSchema", "NoRow", "NoRule", "ORDERS", "MOST_COLUMNS", "is_schema", "is_column", "check_schema", "is_whole", "is_number_below", "is_value", "is_row", "check_row", "is_step", "is_flat", "is_tree", "is_tree_below", "has_branches_form", "is_rule", "check_rule", "compare", "rule_says", "flat_says", "tree_says", "tree_for", "order_says", "_law_mixed", "_law_pile"]
def loose1 : List Str := ["_law_take", "_law_schema", "_law_value", "_law_row", "_law_order_of", "_law_flat", "_law_tree", "_law_puts", "_law_compare", "_law_near", "_law_whole", "_law_good"]
def loose2 : List Str := []
abbrev V : Program := PySem.W.view R.prog [45]
theorem run (w : World) : HandSHeadRun.RunEq R V hk ob 40000 (loose0 ++ loose1 ++ loose2) w := by
  intro os
  kernel_rfl
theorem ends {w : World} {mg : Str → Option Value} {fa : Addr} {h : Heap} (Y : hk.says w h) (G : h.Ns mainGlobals mg) (at_ : mg "law" = some (.ref fa)) :
    ∃ (K : PySem.W.Frag) (fd : FuncData), K.In h ∧ (∀ (s : Shared) (u : Value), BindsTo s fd ⟨[u], []⟩ [("_law_script", u)]) ∧ ∀ base : Heap, K.In base → base.Ns mainGlobals mg → FnG R.prog w K mg base 19 fa fd ["_law_script"] (spD K 1 fn_law) := by
  obtain ⟨K, X, c⟩ := Y
  have g := gs X G c
  obtain ⟨fd, F⟩ := c.d.def_ 35 (d := df_law) (by rfl)
  have e := at_.symm.trans g.d_law
  cases e
  exact ⟨K, fd, X, fun s u => FunD.bindsA (ps := ["_law_script"]) F (fun _ _ _ _ _ _ us hl => (match us, hl with | [_], _ => rfl)) s [u] rfl, fun base _ _ => ok_law g F (the__law_pile g c) (the__law_schema g c) (the__law_flat g c) (the__law_tree g c) (the__law_take g c) (the__law_row g c) (the__law_near g c) (the__law_good g c)⟩
end Vf.Law
open PySem PySem.W PySem.Calls PyProof.Rows
theorem Vf.Law.holds_of (law : Vf.LawD Vf.Law.fn_law) : PySem.Challenge.rw_sortclues_k05_rows_compared.Holds := by
  w_on; o_law
  refine HandSHeadRun.head_any (r := Vf.Law.R) (q := Vf.Law.V) (H := Vf.Law.hk) (ob := Vf.Law.ob) (M := 40000) (loose := Vf.Law.loose0 ++ Vf.Law.loose1 ++ Vf.Law.loose2) (d := HandSHeadRun.topDef Vf.Law.R.prog 45) (kwd := []) Vf.Law.ob_eq
    (by kernel_rfl) (fun s => by kernel_rfl) Vf.Law.run (by kernel_rfl) (by kernel_rfl) (by kernel_rfl) (by rfl) (by first | assumption | decide +kernel) (by decide +kernel) ⟨rfl, rfl, rfl, rfl, rfl, by decide +kernel⟩ ?hw ?hc
  case hw => w_witness2
  case hc =>
    refine Vf.walkG (k := 19) (x := "_law_script") (g := Vf.Law.fn_law) rfl (by kernel_rfl) ⟨rfl, by decide, by decide⟩ law ?_
    intro w mg fa h Y G there
    exact Vf.Law.ends Y G (by
      have e : (HandSHeadRun.topDef Vf.Law.R.prog 45).name = ("law" : PySem.Str) := by kernel_rfl
      rw [← e]
      exact there)
open PySem PySem.W PyProof.Rows in
theorem PySem.Challenge.cw_sortclues_k05_rows_compared_holds : PySem.Challenge.rw_sortclues_k05_rows_compared.Holds := by
  exact Vf.Law.holds_of Vf.Law.law_ok
