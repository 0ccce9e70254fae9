import PyProof.Rows.All
import Wide.All
import OpenK.AllK
import Wide.FinOn
import HandS.ForMost
import HandS.EndBits
import HandS.CallLocal
import HandS.Wide
import HandS.Deep
import PyProof.ReprRoads
import HandS.AnyAll
import HandS.TupAny
import HandS.TupMul
import HandS.Style
import HandS.IsInst
import HandS.Codes
import HandS.Ends
import PyProof.ListStr
import HandS.Star
import HandS.EndTab
import KE.KIsAll
import HandS.Spec
import HandS.WideBits
import HandS.Zip
import HandS.Iter
import PySem.Challenge.RW_everrows_k17_how_many
set_option Elab.async false
set_option linter.all false
set_option maxRecDepth 100000
set_option maxHeartbeats 4000000
/-! defs with the guards of texts known to be none: their promise, their body, their call, the law's end -/
namespace DL
open PySem PySem.Spec PyProof.Rows L2

/-- room for calls, and no text of an object is being made -/
structure RmG (k : Nat) (A : Around) : Prop where
  rm : Room k A
  gd : A.guards = some []
theorem RmG.mono {j k : Nat} {A : Around} (r : RmG k A) (h : j ≤ k) : RmG j A := ⟨r.rm.mono h, r.gd⟩

structure FnG (P : Program) (w : World) (K : PySem.W.Frag) (mg : Str → Option Value) (base : Heap) (CX : CXT)
    (k : Nat) (f : Addr) (fd : FuncData) (ps : List Str) (sp : Sp) : Prop where
  len : ∀ vs H Q E, sp vs H Q E → vs.length = ps.length
  run : ∀ (A : Around) (outer : List Env) (s : Shared) (H : Hp) (args : Args) (us : List Value) (vs : List V) (Q : VK) (E : XK),
    RmG k A → Env0 P w K mg base A outer s H → BindsTo s fd args (ps.zip us) → Vals vs us → sp vs H Q E →
      codeAny (model P w) A (.call (.ref f) args) (CR CX outer P w H s Q E) s

section
variable {P : Program} {w : World} {K : PySem.W.Frag} {mg : Str → Option Value} {base : Heap} {CX : CXT}
theorem FnG.mono {j k : Nat} {f : Addr} {fd : FuncData} {ps : List Str} {sp : Sp} (F : FnG P w K mg base CX j f fd ps sp)
    (h : j ≤ k) : FnG P w K mg base CX k f fd ps sp :=
  ⟨F.len, fun A o s H a us vs Q E r => F.run A o s H a us vs Q E (r.mono h)⟩
theorem FnG.imp {k : Nat} {f : Addr} {fd : FuncData} {ps : List Str} {sp sp' : Sp} (F : FnG P w K mg base CX k f fd ps sp)
    (h : ∀ vs H Q E, sp' vs H Q E → sp vs H Q E) : FnG P w K mg base CX k f fd ps sp' :=
  ⟨fun vs H Q E q => F.len vs H Q E (h _ _ _ _ q),
   fun A o s H a us vs Q E hr he hb hv hs => F.run A o s H a us vs Q E hr he hb hv (h _ _ _ _ hs)⟩
theorem FnG.of {k : Nat} {f : Addr} {fd : FuncData} {ps : List Str} {sp : Sp} (F : FnOk P w K mg base CX k f fd ps sp) :
    FnG P w K mg base CX k f fd ps sp := ⟨F.len, fun A o s H a us vs Q E r => F.run A o s H a us vs Q E r.rm⟩

/-- a def by its body -/
theorem fn_bodyC {k : Nat} {x qual : Str} {st : Stmt} {f : Addr} {fd : FuncData} {N ps : List Str} {sp : Sp}
    (F : Fun K x qual st f fd) (S : FnScope N ps (defScope st)) (len : ∀ vs H Q E, sp vs H Q E → vs.length = ps.length)
    (body : ∀ (cdv : Value), fd.code = cdv → ∀ (A : Around) (outer : List Env) (s : Shared) (H : Hp) (vs : List V) (Q : VK) (E : XK),
      RmG k (A.deeper (envOfC qual (defScope st) s.heap.objs.size f cdv)) → sp vs H Q E →
      ∃ t, PSs (cxOf CX P w K mg base N qual (defScope st) f cdv A outer s H E) (defBody st) t ∧
        t { nx := fun _ H' => Q .non H', rt := Q } (start N vs) H) : FnG P w K mg base CX (k + 1) f fd ps sp := by
  obtain ⟨oc, od, kV, doc, pm, an, cdv, ct, osl, rfl, lk, hcd⟩ := F.ex
  constructor
  · exact len
  intro A outer s H args us vs Q E hr e0 hb r hsp
  have hlen := len _ _ _ _ hsp
  have inK : K.In s.heap := e0.mod.kin.keeps fun b o e => (e0.bs b o e).1
  have lim := e0.mod.nolimit.keeps (h' := s.heap) fun b o e => (e0.bs b o e).1
  have kinds : ∀ y ∈ ps.zip us, (defScope st).names.lookup y.1 = some .local ∨
      ((defScope st).names.lookup y.1 = some .cell ∧
        ((cellsFrom (s.heap.objs.size + 1) (defScope st).names []).lookup y.1).isSome = true) := by
    rintro ⟨n, v⟩ hy
    cases S.par n (List.of_mem_zip hy).1 with
    | inl q => exact .inl q
    | inr q => exact .inr ⟨q, PySem.W.cellsFrom_some _ _ _ (.inl q)⟩
  apply codeAny_call_function hr.rm.depth (inK _ _ lk) rfl S.co S.gen rfl (PySem.W.codeRec_of inK hcd)
  apply hb
  apply wpAny_newFunctionEnv_cells S.kind kinds
  intro env he s1 x
  subst he
  refine ⟨lim.keeps x.toInCall.keep, codeAny_func ?_⟩
  obtain ⟨t, ht, hq⟩ := body cdv rfl A outer s H vs Q E ⟨hr.rm.deeper _, hr.gd⟩ hsp
  have I := inv_start (CX := CX) (E := E) S hr.rm.hd e0 hlen r x
  apply wpAny_mono (ht.run [] s1 (start N vs) H _ I hq)
  · intro fl s' hs
    cases fl with
    | ret u => obtain ⟨v, σ', H', J, rv, q⟩ := hs; exact ⟨v, H', J.os, J.bare, J.base, J.hok, rv, q⟩
    | next => obtain ⟨σ', H', J, q⟩ := hs; exact ⟨V.non, H', J.os, J.bare, J.base, J.hok, rfl, q⟩
    | brk => obtain ⟨_, _, _, q⟩ := hs; exact q.elim
    | cont => obtain ⟨_, _, _, q⟩ := hs; exact q.elim
  · exact fun _ _ hs => hs
theorem fn_body {k : Nat} {x qual : Str} {st : Stmt} {f : Addr} {fd : FuncData} {N ps : List Str} {sp : Sp}
    (F : Fun K x qual st f fd) (S : FnScope N ps (defScope st)) (len : ∀ vs H Q E, sp vs H Q E → vs.length = ps.length)
    (body : ∀ (cdv : Value) (A : Around) (outer : List Env) (s : Shared) (H : Hp) (vs : List V) (Q : VK) (E : XK),
      RmG k (A.deeper (envOfC qual (defScope st) s.heap.objs.size f cdv)) → sp vs H Q E →
      ∃ t, PSs (cxOf CX P w K mg base N qual (defScope st) f cdv A outer s H E) (defBody st) t ∧
        t { nx := fun _ H' => Q .non H', rt := Q } (start N vs) H) : FnG P w K mg base CX (k + 1) f fd ps sp :=
  fn_bodyC F S len fun cdv _ => body cdv
end

section
variable {X : Cx} {CX : CXT} {k : Nat} {f : Addr} {fd : FuncData} {ps : List Str} {sp : Sp} {E : XK} {x : Str} {p pos : Pos} {e : Expr} {es : List Expr} {t : TA}
theorem run_G {pins : List (Addr × Obj)} {σ : L2.St} {H : Hp} {s : Shared} {Q : VK} {us : List Value} {vs : List V}
    (F : FnG X.prog X.w X.K X.mg X.base CX k f fd ps sp) (hr : RmG k X.A) (hb : Binds X.K fd ps []) (hx : Passes CX X E)
    (I : Inv X pins σ H s) (r : Vals vs us) (h : sp vs H Q E) : wpAny (model X.prog X.w) X.A (call (.ref f) us) (EP X pins σ Q) X.xe s := by
  have hl : (us ++ []).length = ps.length := by rw [List.append_nil, ← r.length]; exact F.len _ _ _ _ h
  have hb' := hb s us I.kIn hl
  rw [List.append_nil] at hb'
  apply wpAny_call
  apply codeAny_mono (F.run X.A X.stack s H ⟨us, []⟩ us vs Q E hr I.env0 hb' r h)
  intro r s' hq
  match r, hq with
  | .error e, hq => exact hx pins σ H s e s' I hq
  | .ok (.ret u), hq => exact I.after hq
  | .ok .next, hq => exact hq.elim
  | .ok .brk, hq => exact hq.elim
  | .ok .cont, hq => exact hq.elim
theorem pe_callG (F : FnG X.prog X.w X.K X.mg X.base CX k f fd ps sp) (hr : RmG k X.A) (hg : Gl X x) (hm : X.mg x = some (.ref f))
    (hk : PySem.W.keepIn X.K (.ref f) = true) (hb : Binds X.K fd ps []) (hx : Passes CX X E)
    (ha : PA X (e :: es) t) (hdb : (x == ("__debug__" : Str)) = false := by decide)
    (he : starEach (e :: es) X.env = (false, eval e X.env) :: starEach es X.env := by rfl)
    (hpl : (backTo pos (starEach es X.env)).any (·.1) = false := by rfl) :
    PE X (.Call (.Name x p) (e :: es) [] pos) (fun σ H Q => t σ H fun vs H1 => sp vs H1 Q E) := by
  constructor
  intro pins s σ H Q I h
  apply wpAny_Call_Name_kw
  apply ld_glob I hg hm _ hdb
  apply PySem.W.callWith_K (h₀ := X.base) I.ok.mod.kin hk _ he hpl
  apply thn (ha.run pos pins s σ H _ I h)
  rintro us s1 ⟨vs, H1, I1, r, q⟩
  exact ⟨I1.kIn, run_G F hr hb hx I1 r q⟩
theorem pe_callG0 (F : FnG X.prog X.w X.K X.mg X.base CX k f fd ps sp) (hr : RmG k X.A) (hg : Gl X x) (hm : X.mg x = some (.ref f))
    (hk : PySem.W.keepIn X.K (.ref f) = true) (hb : Binds X.K fd ps []) (hx : Passes CX X E)
    (hdb : (x == ("__debug__" : Str)) = false := by decide) :
    PE X (.Call (.Name x p) [] [] pos) (fun _ H Q => sp [] H Q E) := by
  constructor
  intro pins s σ H Q I h
  apply wpAny_Call_Name_kw
  apply ld_glob I hg hm _ hdb
  exact PySem.W.callWith_K0 I.kIn hk (run_G (us := []) F hr hb hx I .nil h)

/-- the text of data -/
theorem call_reprD (hg : X.A.guards = some []) (hu : X.A.units + 66 < cLine) : CallR X (.builtin "repr") (fun xs H Q => ∃ x d, xs = [x] ∧ Dp X.K H x d ∧ d.showable = true ∧
    SeqAt.shaped d = true ∧ d.shown.length ≤ sizeLine ∧ Q (.str d.shown) H) := by
  intro pins s σ H xs us Q I r h
  obtain ⟨x, d, rfl, hd, hs, hsh, hsz, q⟩ := h
  obtain ⟨u, rfl, rx⟩ := vals1 r
  have sh : d.canLay0 = true ∧ d.depth ≤ 64 := by
    have h2 : (d.canLay0 && decide (d.depth ≤ 64)) = true := hsh
    rw [Bool.and_eq_true] at h2
    exact ⟨h2.1, of_decide_eq_true h2.2⟩
  have refs : ∀ {a : Addr}, u = .ref a → wpAny (model X.prog X.w) X.A (call (.builtin "repr") [u]) (EP X pins σ Q) X.xe s := by
    rintro a rfl
    obtain ⟨as, r1⟩ := Dp.reads I d x (.ref a) hd rx
    refine repr_of_reads' r1 hs (PyData.noDict_hsm (PyData.hasDict_of_canLay d sh.1)) hg (by omega) (fun _ _ e => e) (fun h' u tk hk => ?_) hsz
    exact ⟨.str d.shown, H, I.kept hk, ⟨u, rfl⟩, q⟩
  cases hd with
  | non => cases rx; exact PySem.P.repr_of_none ⟨.str _, H, I.tok _, ⟨_, rfl⟩, q⟩
  | bl b => cases rx; exact PySem.P.repr_of_bool ⟨.str _, H, I.tok _, ⟨_, rfl⟩, q⟩
  | int i => obtain ⟨t, rfl⟩ := rx; exact PySem.P.repr_of_int (of_decide_eq_true hs) ⟨.str _, H, I.tok _, ⟨_, rfl⟩, q⟩
  | str z => obtain ⟨t, rfl⟩ := rx; exact PySem.P.repr_of_str ⟨.str _, H, I.tok _, ⟨_, rfl⟩, q⟩ hsz
  | lst h1 h2 => exact refs rx
  | tup h1 h2 => exact refs rx
end
end DL

set_option Elab.async false
set_option linter.all false
set_option maxRecDepth 100000
set_option maxHeartbeats 4000000
/-! data: what a value is, as a tree; slots that hold data, lists of one's own, the source; readings over data alone -/
namespace DL
open PySem PySem.Spec PyProof.Rows L2
/-- the tables of code objects that may grow -/
class Tb where
  Ts : List Addr
variable [Tb]

/-! ### heaps and hidden places -/
def hid (O : List Addr) (H : Hp) : Hp := fun a => if a ∈ O then none else H a
theorem hid_out {O : List Addr} {H : Hp} {a : Addr} (h : a ∉ O) : hid O H a = H a := if_neg h
theorem hid_in {O : List Addr} {H : Hp} {a : Addr} (h : a ∈ O) : hid O H a = none := if_pos h
theorem hid_some {O : List Addr} {H : Hp} {a : Addr} {o : HO} (h : hid O H a = some o) : a ∉ O ∧ H a = some o := by
  by_cases m : a ∈ O
  · rw [hid_in m] at h; cases h
  · rw [hid_out m] at h; exact ⟨m, h⟩
theorem hid_same {O O' : List Addr} {H H' : Hp} (h1 : ∀ a o, a ∉ O → H a = some o → H' a = some o)
    (h2 : ∀ a ∈ O', a ∈ O ∨ H a = none) : Same (hid O H) (hid O' H') := by
  intro a o h
  obtain ⟨m, e⟩ := hid_some h
  rw [hid_out]
  · exact h1 a o m e
  · intro z
    rcases h2 a z with q | q
    · exact m q
    · rw [e] at q; cases q
theorem SqT.same {K : PySem.W.Frag} {H H' : Hp} {a : Addr} {xs : List V} (e : Same H H') (h : SqT K H a xs) : SqT K H' a xs := by
  rcases h with (h | ⟨o, h⟩) | h
  · exact .inl (.inl (e _ _ h))
  · exact .inl (.inr ⟨o, e _ _ h⟩)
  · exact .inr h
/-- a key of a dict as data -/
def keyD : Key → PyData
  | .inl i => .int i
  | .inr s => .str s
/-- what an object of a dict holds: its keys as data, its values -/
def DObj (o : HO) (ks : List PyData) (vs : List V) : Prop := ∃ kvs : List (Key × V), o = .dK kvs ∧ ks = kvs.map (fun p => keyD p.1) ∧ vs = kvs.map (·.2)
/-- what may be one's own: a list or a dict -/
def IsOwn (o : HO) : Prop := (∀ xs : List V, o ≠ .tup xs) ∧ ∀ (b : Obj) (xs : List V), o ≠ .frz b (.tup xs)
theorem own_lst {xs : List V} : IsOwn (.lst xs) := ⟨fun _ z => (by cases z), fun _ _ z => (by cases z)⟩
theorem own_dK {kvs : List (Key × V)} : IsOwn (.dK kvs) := ⟨fun _ z => (by cases z), fun _ _ z => (by cases z)⟩
theorem DObj.own {o : HO} {ks : List PyData} {vs : List V} (h : DObj o ks vs) : IsOwn o := by
  obtain ⟨kvs, rfl, _⟩ := h
  exact own_dK
mutual
/-- data: lists are tracked and may be one's own, tuples may be written ones -/
inductive Dx (K : PySem.W.Frag) (H : Hp) : V → PyData → Prop
  | non : Dx K H .non .none
  | bl (b : Bool) : Dx K H (.bl b) (.bool b)
  | int (i : Int) : Dx K H (.int i) (.int i)
  | str (x : Str) : Dx K H (.str x) (.str x)
  | lst {a : Addr} {xs : List V} {ds : List PyData} : H a = some (HO.lst xs) → DxAll K H xs ds → Dx K H (.ref a) (.list ds)
  | tup {a : Addr} {xs : List V} {ds : List PyData} : SqT K H a xs → DxAll K H xs ds → Dx K H (.ref a) (.tuple ds)
  | dct {a : Addr} {o : HO} {vs : List V} {es : List (PyData × PyData)} : H a = some o → DObj o (es.map (·.1)) vs → DxAll K H vs (es.map (·.2)) → Dx K H (.ref a) (.dict es)
inductive DxAll (K : PySem.W.Frag) (H : Hp) : List V → List PyData → Prop
  | nil : DxAll K H [] []
  | cons {v : V} {vs : List V} {d : PyData} {ds : List PyData} : Dx K H v d → DxAll K H vs ds → DxAll K H (v :: vs) (d :: ds)
end
mutual
theorem Dx.dp {K : PySem.W.Frag} {H : Hp} : ∀ (d : PyData) (v : V), Dx K H v d → d.canLay0 = true → Dp K H v d
  | _, _, .non, _ => .non
  | _, _, .bl b, _ => .bl b
  | _, _, .int i, _ => .int i
  | _, _, .str x, _ => .str x
  | _, _, .lst (ds := ds) h q, n => .lst (.inl (.inl h)) (DxAll.dp ds _ q (by simpa [PyData.canLay0] using n))
  | _, _, .tup (ds := ds) h q, n => .tup h (DxAll.dp ds _ q (by simpa [PyData.canLay0] using n))
  | _, _, .dct _ _ _, n => by simp [PyData.canLay0] at n
theorem DxAll.dp {K : PySem.W.Frag} {H : Hp} : ∀ (ds : List PyData) (vs : List V), DxAll K H vs ds → PyData.canLayAll0 ds = true → DpAll K H vs ds
  | _, _, .nil, _ => .nil
  | _, _, .cons (d := d) (ds := ds) h q, n => by
    simp only [PyData.canLayAll0, Bool.and_eq_true] at n
    exact .cons (Dx.dp d _ h n.1) (DxAll.dp ds _ q n.2)
end
mutual
theorem Dx.same {K : PySem.W.Frag} {H H' : Hp} (s : Same H H') : ∀ (d : PyData) (v : V), Dx K H v d → Dx K H' v d
  | _, _, .non => .non
  | _, _, .bl b => .bl b
  | _, _, .int i => .int i
  | _, _, .str x => .str x
  | _, _, .lst (ds := ds) h q => .lst (s _ _ h) (DxAll.same s ds _ q)
  | _, _, .tup (ds := ds) h q => .tup (SqT.same s h) (DxAll.same s ds _ q)
  | _, _, .dct (es := es) h q t => .dct (s _ _ h) q (DxAll.same s (es.map (·.2)) _ t)
theorem DxAll.same {K : PySem.W.Frag} {H H' : Hp} (s : Same H H') : ∀ (ds : List PyData) (vs : List V), DxAll K H vs ds → DxAll K H' vs ds
  | _, _, .nil => .nil
  | _, _, .cons (d := d) (ds := ds) h q => .cons (Dx.same s d _ h) (DxAll.same s ds _ q)
end
theorem DxAll.len {K : PySem.W.Frag} {H : Hp} : ∀ {vs : List V} {ds : List PyData}, DxAll K H vs ds → vs.length = ds.length
  | _, _, .nil => rfl
  | _, _, .cons _ q => by rw [List.length_cons, List.length_cons, DxAll.len q]
theorem DxAll.get {K : PySem.W.Frag} {H : Hp} : ∀ {vs : List V} {ds : List PyData}, DxAll K H vs ds → ∀ {i : Nat} {d : PyData}, ds[i]? = some d → ∃ v, vs[i]? = some v ∧ Dx K H v d
  | _, _, .nil, i, d, e => by simp at e
  | _, _, .cons h _, 0, d, e => by simp at e; subst e; exact ⟨_, rfl, h⟩
  | _, _, .cons _ q, i + 1, d, e => by
    obtain ⟨v, h1, h2⟩ := DxAll.get q (i := i) (d := d) (by simpa using e)
    exact ⟨v, by simpa using h1, h2⟩
theorem DxAll.get' {K : PySem.W.Frag} {H : Hp} : ∀ {vs : List V} {ds : List PyData}, DxAll K H vs ds → ∀ {i : Nat} {v : V}, vs[i]? = some v → ∃ d, ds[i]? = some d ∧ Dx K H v d
  | _, _, .nil, i, d, e => by simp at e
  | _, _, .cons h _, 0, d, e => by simp at e; subst e; exact ⟨_, rfl, h⟩
  | _, _, .cons _ q, i + 1, d, e => by
    obtain ⟨v, h1, h2⟩ := DxAll.get' q (i := i) (v := d) (by simpa using e)
    exact ⟨v, by simpa using h1, h2⟩
theorem DxAll.app {K : PySem.W.Frag} {H : Hp} : ∀ {vs ws : List V} {ds es : List PyData}, DxAll K H vs ds → DxAll K H ws es → DxAll K H (vs ++ ws) (ds ++ es)
  | _, _, _, _, .nil, q => q
  | _, _, _, _, .cons h t, q => .cons h (DxAll.app t q)
theorem DxAll.take {K : PySem.W.Frag} {H : Hp} : ∀ {vs : List V} {ds : List PyData} (n : Nat), DxAll K H vs ds → DxAll K H (vs.take n) (ds.take n)
  | _, _, 0, _ => .nil
  | _, _, _ + 1, .nil => .nil
  | _, _, n + 1, .cons h t => .cons h (DxAll.take n t)
theorem DxAll.drop {K : PySem.W.Frag} {H : Hp} : ∀ {vs : List V} {ds : List PyData} (n : Nat), DxAll K H vs ds → DxAll K H (vs.drop n) (ds.drop n)
  | _, _, 0, h => h
  | _, _, _ + 1, .nil => .nil
  | _, _, n + 1, .cons _ t => DxAll.drop n t
theorem DxAll.rev {K : PySem.W.Frag} {H : Hp} : ∀ {vs : List V} {ds : List PyData}, DxAll K H vs ds → DxAll K H vs.reverse ds.reverse
  | _, _, .nil => .nil
  | _, _, .cons h t => by rw [List.reverse_cons, List.reverse_cons]; exact DxAll.app (DxAll.rev t) (.cons h .nil)

/-! ### the source of draws -/
def SrcAt (H : Hp) (a c : Addr) : Prop := ∃ (cells : List Int) (left mixed turn : Int),
  H a = some (.dK [(.inr "cells", .ref c), (.inr "left", .int left), (.inr "mixed", .int mixed), (.inr "turn", .int turn)]) ∧ H c = some (.lst (cells.map V.int)) ∧ cells.length ≤ 63
def SrcOk (H : Hp) (S : List Addr) : Prop := (S = Tb.Ts ∨ ∃ a c, S = a :: c :: Tb.Ts ∧ SrcAt H a c) ∧ ∀ P ∈ (Tb.Ts : List Addr), GxR.TabG H P
theorem SrcOk.there {H : Hp} {S : List Addr} (h : SrcOk H S) : ∀ a ∈ S, H a ≠ none := by
  have tb : ∀ P ∈ (Tb.Ts : List Addr), H P ≠ none := fun P m q => by
    obtain ⟨ps, e, _⟩ := h.2 P m
    rw [e] at q; cases q
  rcases h.1 with e | ⟨a, c, e, cs, l, m, t, h1, h2, _⟩
  · intro a z; rw [e] at z; exact tb a z
  · intro b z q
    rw [e] at z
    rcases List.mem_cons.mp z with rfl | z
    · rw [h1] at q; cases q
    · rcases List.mem_cons.mp z with rfl | z
      · rw [h2] at q; cases q
      · exact tb b z q
/-- all stands as it stood, but for the source -/
structure Ext (S : List Addr) (H H' : Hp) : Prop where
  st : ∀ a o, a ∉ S → H a = some o → H' a = some o
  so : SrcOk H S → SrcOk H' S
theorem Ext.refl {S : List Addr} {H : Hp} : Ext S H H := ⟨fun _ _ _ h => h, id⟩
theorem Ext.trans {S : List Addr} {H H1 H2 : Hp} (a : Ext S H H1) (b : Ext S H1 H2) : Ext S H H2 :=
  ⟨fun c o n h => b.st c o n (a.st c o n h), fun h => b.so (a.so h)⟩
theorem SrcOk.same {S : List Addr} {H H' : Hp} (s : Same H H') (h : SrcOk H S) : SrcOk H' S := by
  refine ⟨?_, fun P m => ?_⟩
  · rcases h.1 with h | ⟨a, c, e, cs, l, m, t, h1, h2, h3⟩
    · exact .inl h
    · exact .inr ⟨a, c, e, cs, l, m, t, s _ _ h1, s _ _ h2, h3⟩
  · obtain ⟨ps, e, r⟩ := h.2 P m
    exact ⟨ps, s _ _ e, r⟩
theorem Ext.of {S : List Addr} {H H' : Hp} (s : Same H H') : Ext S H H' := ⟨fun a o _ h => s a o h, SrcOk.same s⟩
theorem same_new {H : Hp} {p : Addr} {o : HO} (h : H p = none) : Same H (upd H p o) := fun b x e => by
  rw [upd_ne (ne_of_none e h)]; exact e

/-! ### slots -/
inductive SV where
  /-- not read -/
  | un
  /-- data that nobody changes -/
  | va (d : PyData)
  /-- a list of one's own -/
  | ow (ds : List PyData)
  /-- the source -/
  | so
  /-- a dict of one's own -/
  | od (es : List (PyData × PyData))
  /-- a def that was handed over -/
  | fn (f : Addr)
abbrev SD := List SV
@[reducible] def SV.isOwn : SV → Bool
  | .ow _ => true
  | .od _ => true
  | _ => false
/-- what is fixed while a def's body runs -/
structure Cd where
  K : PySem.W.Frag
  H0 : Hp
  Oc : List Addr
  S : List Addr
  /-- what else stays -/
  T : List (V × PyData)
/-- the hidden places: the caller's and those of one's own lists -/
def OO (c : Cd) (os : List (Option Addr)) : List Addr := c.Oc ++ os.filterMap id
theorem mem_OO {c : Cd} {os : List (Option Addr)} {a : Addr} : a ∈ OO c os ↔ a ∈ c.Oc ∨ some a ∈ os := by
  unfold OO
  rw [List.mem_append, List.mem_filterMap]
  constructor
  · rintro (h | ⟨b, h1, h2⟩)
    · exact .inl h
    · exact .inr (by have : b = some a := h2; rw [← this]; exact h1)
  · rintro (h | h)
    · exact .inl h
    · exact .inr ⟨_, h, rfl⟩
def DE (K : PySem.W.Frag) (H : Hp) (o : HO) (es : List (PyData × PyData)) : Prop := ∃ vs : List V, DObj o (es.map (·.1)) vs ∧ DxAll K H vs (es.map (·.2))
theorem DE.same {K : PySem.W.Frag} {H H' : Hp} {o : HO} {es : List (PyData × PyData)} (s : Same H H') (h : DE K H o es) : DE K H' o es := by
  obtain ⟨vs, h1, h2⟩ := h
  exact ⟨vs, h1, DxAll.same s _ _ h2⟩
theorem DE.own {K : PySem.W.Frag} {H : Hp} {o : HO} {es : List (PyData × PyData)} (h : DE K H o es) : IsOwn o := by
  obtain ⟨vs, h1, _⟩ := h
  exact h1.own
theorem DE.dx {K : PySem.W.Frag} {H : Hp} {a : Addr} {o : HO} {es : List (PyData × PyData)} (e : H a = some o) (h : DE K H o es) : Dx K H (.ref a) (.dict es) := by
  obtain ⟨vs, h1, h2⟩ := h
  exact .dct e h1 h2
def SlotR (c : Cd) (O : List Addr) (H : Hp) (s : SV) (v : Option V) (oa : Option Addr) : Prop := match s with
  | .un => oa = none
  | .va d => oa = none ∧ ∃ x : V, v = some x ∧ Dx c.K (hid O H) x d
  | .ow ds => ∃ (a : Addr) (xs : List V), oa = some a ∧ v = some (V.ref a) ∧ H a = some (HO.lst xs) ∧ DxAll c.K (hid O H) xs ds ∧ c.H0 a = none
  | .od es => ∃ (a : Addr) (o : HO), oa = some a ∧ v = some (V.ref a) ∧ H a = some o ∧ DE c.K (hid O H) o es ∧ c.H0 a = none
  | .so => oa = none ∧ ∃ a b, c.S = a :: b :: Tb.Ts ∧ v = some (.ref a)
  | .fn f => oa = none ∧ v = some (.ref f)
/-- hidden places hold lists, or are the source's -/
def OcOk (H : Hp) (S Oc : List Addr) : Prop := ∀ a ∈ Oc, a ∈ S ∨ ∃ o : HO, H a = some o ∧ IsOwn o
theorem OcOk.there {H : Hp} {S Oc : List Addr} (h : OcOk H S Oc) (hs : SrcOk H S) : ∀ a ∈ Oc, H a ≠ none := fun a m => by
  rcases h a m with z | ⟨o, e, _⟩
  · exact hs.there a z
  · rw [e]; intro q; cases q
structure R (c : Cd) (sd : SD) (os : List (Option Addr)) (σ : L2.St) (H : Hp) : Prop where
  ext : Ext c.S c.H0 H
  src : SrcOk c.H0 c.S
  sin : ∀ a ∈ c.S, a ∈ c.Oc
  ocl : OcOk H c.S c.Oc
  lend : sd.length = σ.length
  leno : os.length = σ.length
  slot : ∀ (i : Nat) (s : SV) (v : Option V) (oa : Option Addr), sd[i]? = some s → σ[i]? = some v → os[i]? = some oa → SlotR c (OO c os) H s v oa
  uniq : ∀ (i j : Nat) (a : Addr), os[i]? = some (some a) → os[j]? = some (some a) → i = j
  tmp : ∀ p ∈ c.T, Dx c.K (hid (OO c os) H) p.1 p.2
  dis : ∀ a, some a ∈ os → a ∉ c.Oc
theorem OcOk.grow {H H' : Hp} {S Oc : List Addr} (h : OcOk H S Oc) (x : Ext S H H') : OcOk H' S Oc := fun a m => by
  by_cases z : a ∈ S
  · exact .inl z
  · rcases h a m with y | ⟨o, e, w⟩
    · exact .inl y
    · exact .inr ⟨o, x.st a _ z e, w⟩
section
variable {c : Cd} {sd : SD} {os : List (Option Addr)} {σ : L2.St} {H H' : Hp}
theorem R.sO (r : R c sd os σ H) : ∀ a ∈ c.S, a ∈ OO c os := fun a h => mem_OO.mpr (.inl (r.sin a h))
theorem R.ownAt (r : R c sd os σ H) {a : Addr} (h : some a ∈ os) : ∃ (i : Nat) (s : SV) (o : HO), sd[i]? = some s ∧ s.isOwn = true ∧ σ[i]? = some (some (V.ref a)) ∧ os[i]? = some (some a) ∧ H a = some o ∧ IsOwn o ∧ c.H0 a = none := by
  obtain ⟨i, hi, e⟩ := List.getElem_of_mem h
  have eo : os[i]? = some (some a) := by rw [List.getElem?_eq_getElem hi, e]
  have l1 : i < sd.length := by rw [r.lend, ← r.leno]; exact hi
  have l2 : i < σ.length := by rw [← r.leno]; exact hi
  have s := r.slot i sd[i] σ[i] _ (List.getElem?_eq_getElem l1) (List.getElem?_eq_getElem l2) eo
  cases q : sd[i] with
  | un => rw [q] at s; cases s
  | va d => rw [q] at s; cases s.1
  | so => rw [q] at s; cases s.1
  | fn _ => rw [q] at s; cases s.1
  | ow ds =>
    rw [q] at s
    obtain ⟨a', xs, e1, e2, e3, e4, e5⟩ := s
    cases e1
    exact ⟨i, _, _, by rw [List.getElem?_eq_getElem l1, q], rfl, by rw [List.getElem?_eq_getElem l2, e2], eo, e3, own_lst, e5⟩
  | od es =>
    rw [q] at s
    obtain ⟨a', o, e1, e2, e3, e4, e5⟩ := s
    cases e1
    exact ⟨i, _, o, by rw [List.getElem?_eq_getElem l1, q], rfl, by rw [List.getElem?_eq_getElem l2, e2], eo, e3, e4.own, e5⟩
theorem R.there (r : R c sd os σ H) {a : Addr} (h : a ∈ OO c os) : H a ≠ none := by
  rcases mem_OO.mp h with q | q
  · exact r.ocl.there (r.ext.so r.src) a q
  · obtain ⟨_, _, _, _, _, _, _, e, _⟩ := r.ownAt q
    rw [e]; intro z; cases z
theorem R.newOut (r : R c sd os σ H) {p : Addr} (h : H p = none) : p ∉ OO c os := fun m => r.there m h
/-- data stays where the heap grows -/
theorem Dx.grow {K : PySem.W.Frag} {S O : List Addr} {v : V} {d : PyData} (hs : ∀ a ∈ S, a ∈ O) (x : Ext S H H') (h : Dx K (hid O H) v d) : Dx K (hid O H') v d :=
  Dx.same (hid_same (fun a o n e => x.st a o (fun z => n (hs a z)) e) fun a m => .inl m) d v h
theorem DxAll.grow {K : PySem.W.Frag} {S O : List Addr} {v : List V} {d : List PyData} (hs : ∀ a ∈ S, a ∈ O) (x : Ext S H H') (h : DxAll K (hid O H) v d) : DxAll K (hid O H') v d :=
  DxAll.same (hid_same (fun a o n e => x.st a o (fun z => n (hs a z)) e) fun a m => .inl m) d v h
theorem DE.grow {K : PySem.W.Frag} {S O : List Addr} {o : HO} {es : List (PyData × PyData)} (hs : ∀ a ∈ S, a ∈ O) (x : Ext S H H') (h : DE K (hid O H) o es) : DE K (hid O H') o es :=
  DE.same (hid_same (fun a o n e => x.st a o (fun z => n (hs a z)) e) fun a m => .inl m) h
theorem own_notS (r : R c sd os σ H) {a : Addr} (h : some a ∈ os) : a ∉ c.S := fun z => by
  obtain ⟨_, _, _, _, _, _, _, _, _, e⟩ := r.ownAt h
  exact r.src.there a z e
theorem R.grow (r : R c sd os σ H) (x : Ext c.S H H') : R c sd os σ H' := by
  refine ⟨r.ext.trans x, r.src, r.sin, r.ocl.grow x, r.lend, r.leno, fun i s v oa h1 h2 h3 => ?_, r.uniq, fun p m => Dx.grow r.sO x (r.tmp p m), r.dis⟩
  have q := r.slot i s v oa h1 h2 h3
  cases s with
  | un => exact q
  | va d => obtain ⟨q1, y, q2, q3⟩ := q; exact ⟨q1, y, q2, Dx.grow r.sO x q3⟩
  | so => exact q
  | fn _ => exact q
  | ow ds =>
    obtain ⟨a, xs, rfl, e2, e3, e4, e5⟩ := q
    exact ⟨a, xs, rfl, e2, x.st a _ (own_notS r (List.mem_of_getElem? h3)) e3, DxAll.grow r.sO x e4, e5⟩
  | od es =>
    obtain ⟨a, o, rfl, e2, e3, e4, e5⟩ := q
    exact ⟨a, o, rfl, e2, x.st a _ (own_notS r (List.mem_of_getElem? h3)) e3, DE.grow r.sO x e4, e5⟩
theorem R.ocNow (r : R c sd os σ H) : OcOk H c.S (OO c os) := fun a m => by
  rcases mem_OO.mp m with q | q
  · exact r.ocl a q
  · obtain ⟨_, _, o, _, _, _, _, e, w, _⟩ := r.ownAt q
    exact .inr ⟨o, e, w⟩
theorem R.srcNow (r : R c sd os σ H) : SrcOk H c.S := r.ext.so r.src
end
end DL

set_option Elab.async false
set_option linter.all false
set_option maxRecDepth 100000
set_option maxHeartbeats 4000000
/-! expressions over data -/
namespace DL
open PySem PySem.Spec PyProof.Rows L2
variable [Tb]

/-- what an expression hands back: data, or a new list -/
inductive RV where
  | va (d : PyData)
  | fr (ds : List PyData)
  | fd (es : List (PyData × PyData))
@[reducible] def RV.dat : RV → PyData
  | .va d => d
  | .fr ds => .list ds
  | .fd es => .dict es
@[reducible] def RV.sv : RV → SV
  | .va d => .va d
  | .fr ds => .ow ds
  | .fd es => .od es
def RvR (K : PySem.W.Frag) (O : List Addr) (H H' : Hp) (v : V) (r : RV) : Prop := match r with
  | .va d => Dx K (hid O H') v d
  | .fr ds => ∃ (p : Addr) (xs : List V), v = V.ref p ∧ H p = none ∧ H' p = some (HO.lst xs) ∧ DxAll K (hid (p :: O) H') xs ds
  | .fd es => ∃ (p : Addr) (o : HO), v = V.ref p ∧ H p = none ∧ H' p = some o ∧ DE K (hid (p :: O) H') o es
/-- how a value is read: nothing of one's own in it; itself perhaps a list of one's own; any -/
inductive Md where
  | cl | sh | bo
def DM (m : Md) (K : PySem.W.Frag) (S O : List Addr) (H : Hp) (v : V) (d : PyData) : Prop := match m with
  | .cl => Dx K (hid O H) v d
  | .bo => Dx K (hid S H) v d
  | .sh => match d with
    | .list ds => ∃ (a : Addr) (xs : List V), v = V.ref a ∧ hid S H a = some (HO.lst xs) ∧ DxAll K (hid O H) xs ds
    | .dict es => ∃ (a : Addr) (o : HO), v = V.ref a ∧ hid S H a = some o ∧ DE K (hid O H) o es
    | d => Dx K (hid O H) v d
abbrev WR := SD → (RV → Prop) → Prop
abbrev WD := SD → (PyData → Prop) → Prop
abbrev WB := SD → (Bool → Prop) → Prop
abbrev WL := SD → (List PyData → Prop) → Prop
def tR (K : PySem.W.Frag) (w : WR) : TE := fun σ H Q => ∃ (c : Cd) (sd : SD) (os : List (Option Addr)), c.K = K ∧ R c sd os σ H ∧
  w sd fun r => ∀ v H', Ext c.S H H' → RvR K (OO c os) H H' v r → Q v H'
def tM (m : Md) (K : PySem.W.Frag) (w : WD) : TE := fun σ H Q => ∃ (c : Cd) (sd : SD) (os : List (Option Addr)), c.K = K ∧ R c sd os σ H ∧
  w sd fun d => ∀ v H', Ext c.S H H' → DM m K c.S (OO c os) H' v d → Q v H'
def tTe (K : PySem.W.Frag) (w : WB) : TT := fun σ H Q => ∃ (c : Cd) (sd : SD) (os : List (Option Addr)), c.K = K ∧ R c sd os σ H ∧
  w sd fun b => ∀ H', Ext c.S H H' → Q b H'
inductive DMs (m : Md) (K : PySem.W.Frag) (S O : List Addr) (H : Hp) : List V → List PyData → Prop
  | nil : DMs m K S O H [] []
  | cons {v : V} {vs : List V} {d : PyData} {ds : List PyData} : DM m K S O H v d → DMs m K S O H vs ds → DMs m K S O H (v :: vs) (d :: ds)
def tLi (m : Md) (K : PySem.W.Frag) (w : WL) : TA := fun σ H Q => ∃ (c : Cd) (sd : SD) (os : List (Option Addr)), c.K = K ∧ R c sd os σ H ∧
  w sd fun ds => ∀ vs H', Ext c.S H H' → DMs m K c.S (OO c os) H' vs ds → Q vs H'
structure EvR (X : Cx) (e : Expr) (w : WR) : Prop where
  pe : PE X e (tR X.K w)
  mo : ∀ sd (Q Q' : RV → Prop), (∀ r, Q r → Q' r) → w sd Q → w sd Q'
structure Ev (m : Md) (X : Cx) (e : Expr) (w : WD) : Prop where
  pe : PE X e (tM m X.K w)
  mo : ∀ sd (Q Q' : PyData → Prop), (∀ r, Q r → Q' r) → w sd Q → w sd Q'
structure EvT (X : Cx) (e : Expr) (w : WB) : Prop where
  pt : PT X e (tTe X.K w)
  mo : ∀ sd (Q Q' : Bool → Prop), (∀ r, Q r → Q' r) → w sd Q → w sd Q'
structure EvL (m : Md) (X : Cx) (es : List Expr) (w : WL) : Prop where
  pa : PA X es (tLi m X.K w)
  mo : ∀ sd (Q Q' : List PyData → Prop), (∀ r, Q r → Q' r) → w sd Q → w sd Q'

theorem PE.weak {X : Cx} {e : Expr} {t t' : TE} (h : PE X e t) (k : ∀ σ H Q, t' σ H Q → t σ H Q) : PE X e t' :=
  ⟨fun pins s σ H Q I q => h.run pins s σ H Q I (k σ H Q q)⟩
theorem PT.weak {X : Cx} {e : Expr} {t t' : TT} (h : PT X e t) (k : ∀ σ H Q, t' σ H Q → t σ H Q) : PT X e t' :=
  ⟨fun pins s σ H Q I q => h.run pins s σ H Q I (k σ H Q q)⟩
theorem PA.weak {X : Cx} {e : List Expr} {t t' : TA} (h : PA X e t) (k : ∀ σ H Q, t' σ H Q → t σ H Q) : PA X e t' :=
  ⟨fun pos pins s σ H Q I q => h.run pos pins s σ H Q I (k σ H Q q)⟩

section
variable {K : PySem.W.Frag} {S O : List Addr} {H H' : Hp} {v : V} {d : PyData} {m : Md}
theorem hid_grow {a : Addr} {o : HO} (hs : ∀ a ∈ S, a ∈ O) (x : Ext S H H') (h : hid O H a = some o) : hid O H' a = some o :=
  hid_same (fun a o n e => x.st a o (fun z => n (hs a z)) e) (fun a m => .inl m) a o h
theorem DM.grow (hs : ∀ a ∈ S, a ∈ O) (x : Ext S H H') (h : DM m K S O H v d) : DM m K S O H' v d := by
  cases m with
  | cl => exact Dx.grow (S := S) hs x h
  | bo => exact Dx.grow (S := S) (fun _ h => h) x h
  | sh =>
    cases d with
    | list ds =>
      obtain ⟨a, xs, e, h1, h2⟩ := h
      exact ⟨a, xs, e, hid_grow (fun _ h => h) x h1, DxAll.grow hs x h2⟩
    | none => exact Dx.grow (S := S) hs x h
    | bool b => exact Dx.grow (S := S) hs x h
    | int b => exact Dx.grow (S := S) hs x h
    | str b => exact Dx.grow (S := S) hs x h
    | tuple b => exact Dx.grow (S := S) hs x h
    | dict b =>
      obtain ⟨a, o, e, h1, h2⟩ := h
      exact ⟨a, o, e, hid_grow (fun _ h => h) x h1, DE.grow hs x h2⟩
theorem DMs.grow (hs : ∀ a ∈ S, a ∈ O) (x : Ext S H H') : ∀ {vs : List V} {ds : List PyData}, DMs m K S O H vs ds → DMs m K S O H' vs ds
  | _, _, .nil => .nil
  | _, _, .cons h t => .cons (DM.grow hs x h) (DMs.grow hs x t)
theorem hid_le (hs : ∀ a ∈ S, a ∈ O) : Same (hid O H) (hid S H) := hid_same (fun _ _ _ e => e) fun a m => .inl (hs a m)
theorem DM.of_cl (hs : ∀ a ∈ S, a ∈ O) (h : Dx K (hid O H) v d) : DM m K S O H v d := by
  cases m with
  | cl => exact h
  | bo => exact Dx.same (hid_le hs) d v h
  | sh =>
    cases d with
    | list ds =>
      cases h with
      | lst h1 h2 => exact ⟨_, _, rfl, hid_le hs _ _ h1, h2⟩
    | dict es =>
      cases h with
      | dct h1 h2 h3 => exact ⟨_, _, rfl, hid_le hs _ _ h1, _, h2, h3⟩
    | none => exact h
    | bool b => exact h
    | int b => exact h
    | str b => exact h
    | tuple b => exact h
theorem DM.to_bo (hs : ∀ a ∈ S, a ∈ O) (h : DM m K S O H v d) : Dx K (hid S H) v d := by
  cases m with
  | cl => exact Dx.same (hid_le hs) d v h
  | bo => exact h
  | sh =>
    cases d with
    | list ds =>
      obtain ⟨a, xs, rfl, h1, h2⟩ := h
      exact .lst h1 (DxAll.same (hid_le hs) _ _ h2)
    | none => exact Dx.same (hid_le hs) _ v h
    | bool b => exact Dx.same (hid_le hs) _ v h
    | int b => exact Dx.same (hid_le hs) _ v h
    | str b => exact Dx.same (hid_le hs) _ v h
    | tuple b => exact Dx.same (hid_le hs) _ v h
    | dict es =>
      obtain ⟨a, o, rfl, h1, vs, h2, h3⟩ := h
      exact .dct h1 h2 (DxAll.same (hid_le hs) _ _ h3)
theorem DMs.of_cl (hs : ∀ a ∈ S, a ∈ O) : ∀ {vs : List V} {ds : List PyData}, DMs .cl K S O H vs ds → DMs m K S O H vs ds
  | _, _, .nil => .nil
  | _, _, .cons h t => .cons (DM.of_cl hs h) (DMs.of_cl hs t)
theorem DMs.all (hs : ∀ a ∈ S, a ∈ O) : ∀ {vs : List V} {ds : List PyData}, DMs .cl K S O H vs ds → DxAll K (hid O H) vs ds
  | _, _, .nil => .nil
  | _, _, .cons h t => .cons h (DMs.all hs t)
theorem DMs.allB (hs : ∀ a ∈ S, a ∈ O) : ∀ {vs : List V} {ds : List PyData}, DMs m K S O H vs ds → DxAll K (hid S H) vs ds
  | _, _, .nil => .nil
  | _, _, .cons h t => .cons (DM.to_bo hs h) (DMs.allB hs t)
theorem RvR.cl {r : RV} (h : RvR K O H H' v r) (hO : ∀ a ∈ O, H a ≠ none) : Dx K (hid O H') v r.dat := by
  cases r with
  | va d => exact h
  | fr ds =>
    obtain ⟨p, xs, rfl, h1, h2, h3⟩ := h
    have np : p ∉ O := fun z => hO p z h1
    refine .lst (by rw [hid_out np]; exact h2) (DxAll.same (hid_same (fun _ _ _ e => e) fun a m => .inl (List.mem_cons_of_mem _ m)) _ _ h3)
  | fd es =>
    obtain ⟨p, o, rfl, h1, h2, h3⟩ := h
    have np : p ∉ O := fun z => hO p z h1
    exact DE.dx (by rw [hid_out np]; exact h2) (DE.same (hid_same (fun _ _ _ e => e) fun a m => .inl (List.mem_cons_of_mem _ m)) h3)
end

section
variable {X : Cx} {e a b : Expr} {es : List Expr} {m m1 m2 : Md} {pos : Pos}
theorem EvR.cl {w : WR} (h : EvR X e w) : Ev m X e (fun sd Q => w sd fun r => Q r.dat) where
  pe := PE.weak h.pe fun σ H Q ⟨c, sd, os, hk, r, q⟩ => ⟨c, sd, os, hk, r, h.mo _ _ _ (fun z k v H' x rv => k v H' x (DM.of_cl r.sO (RvR.cl rv fun a m => r.there m))) q⟩
  mo := fun sd Q Q' k q => h.mo _ _ _ (fun r z => k _ z) q
theorem Ev.rv {w : WD} (h : Ev .cl X e w) : EvR X e (fun sd Q => w sd fun d => Q (.va d)) where
  pe := PE.weak h.pe fun σ H Q ⟨c, sd, os, hk, r, q⟩ => ⟨c, sd, os, hk, r, h.mo _ _ _ (fun z k v H' x rv => k v H' x rv) q⟩
  mo := fun sd Q Q' k q => h.mo _ _ _ (fun r z => k _ z) q
theorem Ev.up {w : WD} (h : Ev .cl X e w) : Ev m X e w where
  pe := PE.weak h.pe fun σ H Q ⟨c, sd, os, hk, r, q⟩ => ⟨c, sd, os, hk, r, h.mo _ _ _ (fun z k v H' x rv => k v H' x (DM.of_cl r.sO rv)) q⟩
  mo := h.mo
theorem Ev.bo {w : WD} (h : Ev m X e w) : Ev .bo X e w where
  pe := PE.weak h.pe fun σ H Q ⟨c, sd, os, hk, r, q⟩ => ⟨c, sd, os, hk, r, h.mo _ _ _ (fun z k v H' x rv => k v H' x (DM.to_bo r.sO rv)) q⟩
  mo := h.mo

/-! ### names, constants -/
@[reducible] def getS : SD → Nat → SV
  | [], _ => .un
  | s :: _, 0 => s
  | _ :: r, n + 1 => getS r n
theorem getS_some : ∀ {sd : SD} {i : Nat} {s : SV}, getS sd i = s → s ≠ .un → sd[i]? = some s
  | [], _, s, h, n => absurd h.symm n
  | t :: _, 0, s, h, _ => by have h' : t = s := h; subst h'; rfl
  | _ :: r, k + 1, s, h, n => by have := getS_some (sd := r) (i := k) h n; simpa using this
theorem R.at_ {c : Cd} {sd : SD} {os : List (Option Addr)} {σ : L2.St} {H : Hp} {i : Nat} {s : SV} (r : R c sd os σ H) (h : getS sd i = s) (n : s ≠ .un) :
    ∃ v oa, σ[i]? = some v ∧ os[i]? = some oa ∧ SlotR c (OO c os) H s v oa := by
  have e := getS_some h n
  obtain ⟨l, _⟩ := List.getElem?_eq_some_iff.mp e
  have l2 : i < σ.length := by rw [← r.lend]; exact l
  have l3 : i < os.length := by rw [r.leno]; exact l2
  exact ⟨_, _, List.getElem?_eq_getElem l2, List.getElem?_eq_getElem l3, r.slot i s _ _ e (List.getElem?_eq_getElem l2) (List.getElem?_eq_getElem l3)⟩
def wName (i : Nat) : WD := fun sd Q => match getS sd i with
  | .va d => Q d
  | _ => False
def wNameS (i : Nat) : WD := fun sd Q => match getS sd i with
  | .va d => Q d
  | .ow ds => Q (.list ds)
  | .od es => Q (.dict es)
  | _ => False
theorem ev_name {x : Str} (i : Nat) (hN : X.N[i]? = some x := by rfl)
    (hv : Vis X.env.scope x := by first | exact Or.inl rfl | exact Or.inr (Or.inl rfl) | exact Or.inr (Or.inr rfl))
    (hd : (x == ("__debug__" : Str)) = false := by decide) (hcd : (x == ("__classdict__" : Str)) = false := by decide) : Ev m X (.Name x pos) (wName i) := by
  refine Ev.up ⟨PE.weak (pe_var hN hv hd hcd) fun σ H Q ⟨c, sd, os, hk, r, q⟩ => ?_, fun sd Q Q' k q => ?_⟩
  · unfold wName at q
    cases e : getS sd i with
    | va d =>
      rw [e] at q
      obtain ⟨v, oa, h1, h2, h3, y, rfl, h4⟩ := r.at_ e (by intro z; cases z)
      exact ⟨y, h1, q y H Ext.refl (by rw [← hk]; exact h4)⟩
    | un => rw [e] at q; exact q.elim
    | so => rw [e] at q; exact q.elim
    | fn _ => rw [e] at q; exact q.elim
    | od _ => rw [e] at q; exact q.elim
    | ow ds => rw [e] at q; exact q.elim
  · unfold wName at q ⊢
    cases e : getS sd i with
    | va d => rw [e] at q; exact k _ q
    | un => rw [e] at q; exact q.elim
    | so => rw [e] at q; exact q.elim
    | fn _ => rw [e] at q; exact q.elim
    | od _ => rw [e] at q; exact q.elim
    | ow ds => rw [e] at q; exact q.elim
theorem ev_nameS {x : Str} (i : Nat) (hN : X.N[i]? = some x := by rfl)
    (hv : Vis X.env.scope x := by first | exact Or.inl rfl | exact Or.inr (Or.inl rfl) | exact Or.inr (Or.inr rfl))
    (hd : (x == ("__debug__" : Str)) = false := by decide) (hcd : (x == ("__classdict__" : Str)) = false := by decide) : Ev .sh X (.Name x pos) (wNameS i) := by
  refine ⟨PE.weak (pe_var hN hv hd hcd) fun σ H Q ⟨c, sd, os, hk, r, q⟩ => ?_, fun sd Q Q' k q => ?_⟩
  · unfold wNameS at q
    cases e : getS sd i with
    | va d =>
      rw [e] at q
      obtain ⟨v, oa, h1, h2, h3, y, rfl, h4⟩ := r.at_ e (by intro z; cases z)
      exact ⟨y, h1, q y H Ext.refl (by rw [← hk]; exact DM.of_cl r.sO h4)⟩
    | ow ds =>
      rw [e] at q
      obtain ⟨v, oa, h1, h2, a, xs, rfl, rfl, h3, h4, h5⟩ := r.at_ e (by intro z; cases z)
      refine ⟨_, h1, q (V.ref a) H Ext.refl ?_⟩
      rw [← hk]
      exact ⟨a, xs, rfl, by rw [hid_out (own_notS r (List.mem_of_getElem? h2))]; exact h3, h4⟩
    | od es =>
      rw [e] at q
      obtain ⟨v, oa, h1, h2, a, o, rfl, rfl, h3, h4, h5⟩ := r.at_ e (by intro z; cases z)
      refine ⟨_, h1, q (V.ref a) H Ext.refl ?_⟩
      rw [← hk]
      exact ⟨a, o, rfl, by rw [hid_out (own_notS r (List.mem_of_getElem? h2))]; exact h3, h4⟩
    | un => rw [e] at q; exact q.elim
    | so => rw [e] at q; exact q.elim
    | fn _ => rw [e] at q; exact q.elim
  · unfold wNameS at q ⊢
    cases e : getS sd i with
    | va d => rw [e] at q; exact k _ q
    | ow d => rw [e] at q; exact k _ q
    | od d => rw [e] at q; exact k _ q
    | un => rw [e] at q; exact q.elim
    | so => rw [e] at q; exact q.elim
    | fn _ => rw [e] at q; exact q.elim
def wC (d : PyData) : WD := fun _ Q => Q d
theorem ev_c {d : PyData} {v : V} (h : PE X e (tC v)) (hd : ∀ K H, Dx K H v d) : Ev m X e (wC d) :=
  Ev.up ⟨PE.weak h fun σ H Q ⟨c, sd, os, hk, r, q⟩ => q v H Ext.refl (hd _ _), fun _ _ _ k q => k _ q⟩
theorem ev_int {i j} : Ev m X (.Constant (.int i) j pos) (wC (.int i)) := ev_c pe_int fun _ _ => .int i
theorem ev_bl {i j} : Ev m X (.Constant (.bool i) j pos) (wC (.bool i)) := ev_c pe_bl fun _ _ => .bl i
theorem ev_str {i j} : Ev m X (.Constant (.str i) j pos) (wC (.str i)) := ev_c pe_str fun _ _ => .str i
theorem ev_non {j} : Ev m X (.Constant .none j pos) (wC .none) := ev_c pe_non fun _ _ => .non

/-! ### lists of expressions -/
theorem evl_nil : EvL m X [] (fun _ Q => Q []) :=
  ⟨PA.weak pa_nil fun σ H Q ⟨c, sd, os, hk, r, q⟩ => q [] H Ext.refl .nil, fun _ _ _ k q => k _ q⟩
theorem evl_cons {w : WD} {ws : WL} (h : Ev m X e w) (t : EvL m X es ws) (hs : starEach (e :: es) X.env = (false, eval e X.env) :: starEach es X.env := by rfl) :
    EvL m X (e :: es) (fun sd Q => w sd fun d => ws sd fun ds => Q (d :: ds)) where
  pa := PA.weak (pa_cons h.pe t.pa hs) fun σ H Q ⟨c, sd, os, hk, r, q⟩ =>
    ⟨c, sd, os, hk, r, h.mo _ _ _ (fun d k v H1 x1 d1 => ⟨c, sd, os, hk, r.grow x1, t.mo _ _ _ (fun ds k2 vs H2 x2 d2 =>
      k2 (v :: vs) H2 (x1.trans x2) (.cons (DM.grow r.sO x2 d1) d2)) k⟩) q⟩
  mo := fun sd Q Q' k q => h.mo _ _ _ (fun d z => t.mo _ _ _ (fun ds z => k _ z) z) q
end
end DL

set_option Elab.async false
set_option linter.all false
set_option maxRecDepth 100000
set_option maxHeartbeats 4000000
/-! operators, built-ins, calls, displays, tests over data -/
namespace DL
open PySem PySem.Spec PyProof.Rows L2
variable [Tb]

/-- what is new behind some growth is new -/
theorem RvR.from {K : PySem.W.Frag} {S O : List Addr} {H H1 H' : Hp} {v : V} {z : RV} (hs : ∀ a ∈ S, a ∈ O) (ht : ∀ a ∈ O, H1 a ≠ none) (x : Ext S H H1) (h : RvR K O H1 H' v z) : RvR K O H H' v z := by
  cases z with
  | va d => exact h
  | fr ds =>
    obtain ⟨p, xs, e1, e2, e3, e4⟩ := h
    refine ⟨p, xs, e1, ?_, e3, e4⟩
    cases q : H p with
    | none => rfl
    | some o =>
      by_cases z : p ∈ S
      · exact absurd e2 (ht p (hs p z))
      · rw [x.st p o z q] at e2; cases e2
  | fd es =>
    obtain ⟨p, xs, e1, e2, e3, e4⟩ := h
    refine ⟨p, xs, e1, ?_, e3, e4⟩
    cases q : H p with
    | none => rfl
    | some o =>
      by_cases z : p ∈ S
      · exact absurd e2 (ht p (hs p z))
      · rw [x.st p o z q] at e2; cases e2
abbrev RD2 := PyData → PyData → (RV → Prop) → Prop
abbrev RDn := List PyData → (RV → Prop) → Prop
/-- what the values' rule r asks follows from what the data's rule asks -/
def Br2 (K : PySem.W.Frag) (m1 m2 : Md) (r : R2) (rd : RD2) : Prop :=
  ∀ (S O : List Addr) (H : Hp) (x y : V) (d e : PyData) (Q : VK), (∀ a ∈ S, a ∈ O) → (∀ a ∈ O, H a ≠ none) →
    DM m1 K S O H x d → DM m2 K S O H y e → rd d e (fun z => ∀ v H', Same H H' → RvR K O H H' v z → Q v H') → r x y H Q
def BrN (K : PySem.W.Frag) (m : Md) (r : List V → Hp → VK → Prop) (rd : RDn) : Prop :=
  ∀ (S O : List Addr) (H : Hp) (xs : List V) (ds : List PyData) (Q : VK), (∀ a ∈ S, a ∈ O) → (∀ a ∈ O, H a ≠ none) →
    DMs m K S O H xs ds → rd ds (fun z => ∀ v H', Same H H' → RvR K O H H' v z → Q v H') → r xs H Q
def Mo2 (rd : RD2) : Prop := ∀ d e (Q Q' : RV → Prop), (∀ z, Q z → Q' z) → rd d e Q → rd d e Q'
def MoN (rd : RDn) : Prop := ∀ d (Q Q' : RV → Prop), (∀ z, Q z → Q' z) → rd d Q → rd d Q'
structure OpD (X : Cx) (f : Value → Value → Sem Value) (m1 m2 : Md) (rd : RD2) : Prop where
  ex : ∃ r, OpR X f r ∧ Br2 X.K m1 m2 r rd
  mo : Mo2 rd
structure CallD (X : Cx) (f : Value) (m : Md) (rd : RDn) : Prop where
  ex : ∃ r, CallR X f r ∧ BrN X.K m r rd
  mo : MoN rd
section
variable {X : Cx} {e a b : Expr} {es : List Expr} {m m1 m2 : Md} {pos p : Pos} {rd : RD2} {wa wb : WD}
def w2 (rd : RD2) (wa wb : WD) : WR := fun sd Q => wa sd fun d => wb sd fun e => rd d e Q
theorem w2_mo (h : Mo2 rd) (ha : Ev m1 X a wa) (hb : Ev m2 X b wb) : ∀ sd (Q Q' : RV → Prop), (∀ r, Q r → Q' r) → w2 rd wa wb sd Q → w2 rd wa wb sd Q' :=
  fun sd Q Q' k q => ha.mo _ _ _ (fun d z => hb.mo _ _ _ (fun e z => h d e _ _ k z) z) q
theorem w2_run {r : R2} (hr : Br2 X.K m1 m2 r rd) (hmo : Mo2 rd) (ha : Ev m1 X a wa) (hb : Ev m2 X b wb) {σ : L2.St} {H : Hp} {Q : VK} (q : tR X.K (w2 rd wa wb) σ H Q) :
    tOp r (tM m1 X.K wa) (tM m2 X.K wb) σ H Q := by
  obtain ⟨c, sd, os, hk, rr, q⟩ := q
  refine ⟨c, sd, os, hk, rr, ha.mo _ _ _ (fun d k v H1 x1 d1 => ⟨c, sd, os, hk, rr.grow x1, hb.mo _ _ _ (fun e k2 u H2 x2 d2 => ?_) k⟩) q⟩
  have x12 := x1.trans x2
  refine hr c.S (OO c os) H2 v u d e Q rr.sO (fun a m => (rr.grow x12).there m) (DM.grow rr.sO x2 d1) d2 (hmo _ _ _ _ (fun z kz v' H' s rv => ?_) k2)
  exact kz v' H' (x12.trans (Ext.of s)) (RvR.from rr.sO (fun a m => (rr.grow x12).there m) x12 rv)
theorem evr_op {op : Operator} (ho : OpD X (binaryOp op) m1 m2 rd) (ha : Ev m1 X a wa) (hb : Ev m2 X b wb) : EvR X (.BinOp a op b pos) (w2 rd wa wb) where
  pe := by
    obtain ⟨r, h1, h2⟩ := ho.ex
    exact PE.weak (pe_op h1 ha.pe hb.pe) fun σ H Q q => w2_run h2 ho.mo ha hb q
  mo := w2_mo ho.mo ha hb
theorem evr_cmp {op : CmpOp} (ho : OpD X (compareOp op) m1 m2 rd) (ha : Ev m1 X a wa) (hb : Ev m2 X b wb) (hm : behindInMarks op b = false := by first | exact nomark _ | rfl) :
    EvR X (.Compare a [op] [b] pos) (w2 rd wa wb) where
  pe := by
    obtain ⟨r, h1, h2⟩ := ho.ex
    exact PE.weak (pe_cmpR h1 ha.pe hb.pe hm) fun σ H Q q => w2_run h2 ho.mo ha hb q
  mo := w2_mo ho.mo ha hb
/-! ### the operators -/
def rdInt (C : Int → Int → Prop) (g : Int → Int → PyData) : RD2 := fun d e Q => match d, e with
  | .int i, .int j => C i j ∧ Q (.va (g i j))
  | _, _ => False
theorem rdInt_mo {C : Int → Int → Prop} {g : Int → Int → PyData} : Mo2 (rdInt C g) := by
  intro d e Q Q' k q
  unfold rdInt at q ⊢
  split at q
  · exact ⟨q.1, k _ q.2⟩
  · exact q.elim
theorem shInt {K : PySem.W.Frag} {S O : List Addr} {H : Hp} {x : V} {i : Int} (h : DM .sh K S O H x (.int i)) : x = .int i := by
  cases h
  rfl
theorem shStr {K : PySem.W.Frag} {S O : List Addr} {H : Hp} {x : V} {i : Str} (h : DM .sh K S O H x (.str i)) : x = .str i := by
  cases h
  rfl
theorem shBl {K : PySem.W.Frag} {S O : List Addr} {H : Hp} {x : V} {i : Bool} (h : DM .sh K S O H x (.bool i)) : x = .bl i := by
  cases h
  rfl
theorem shTup {K : PySem.W.Frag} {S O : List Addr} {H : Hp} {x : V} {ds : List PyData} (h : DM .sh K S O H x (.tuple ds)) : ∃ a xs, x = .ref a ∧ SqT K (hid O H) a xs ∧ DxAll K (hid O H) xs ds := by
  cases h with
  | tup h1 h2 => exact ⟨_, _, rfl, h1, h2⟩
theorem hid_sub {O : List Addr} {H : Hp} : Same (hid O H) H := fun a o h => (hid_some h).2
theorem opd_int {f : Value → Value → Sem Value} {C : Int → Int → Prop} {g : Int → Int → V} {g' : Int → Int → PyData} (h : OpR X f (rI C g)) (hg : ∀ K H i j, Dx K H (g i j) (g' i j)) : OpD X f .sh .sh (rdInt C g') where
  ex := ⟨_, h, fun S O H x y d e Q _ _ hx hy q => by
    unfold rdInt at q
    split at q
    · exact ⟨_, _, shInt hx, shInt hy, q.1, q.2 _ H (Same.refl H) (hg _ _ _ _)⟩
    · exact q.elim⟩
  mo := rdInt_mo
theorem opd_int0 {f : Value → Value → Sem Value} {g : Int → Int → V} {g' : Int → Int → PyData} (h : OpR X f (rI0 g)) (hg : ∀ K H i j, Dx K H (g i j) (g' i j)) : OpD X f .sh .sh (rdInt (fun _ _ => True) g') where
  ex := ⟨_, h, fun S O H x y d e Q _ _ hx hy q => by
    unfold rdInt at q
    split at q
    · exact ⟨_, _, shInt hx, shInt hy, q.2 _ H (Same.refl H) (hg _ _ _ _)⟩
    · exact q.elim⟩
  mo := rdInt_mo
theorem od_sub : OpD X (binaryOp .Sub) .sh .sh (rdInt (fun _ _ => True) fun i j => .int (i - j)) := opd_int0 op_sub fun _ _ _ _ => .int _
theorem od_mod : OpD X (binaryOp .Mod) .sh .sh (rdInt (fun _ j => 0 < j) fun i j => .int (i % j)) := opd_int op_mod fun _ _ _ _ => .int _
theorem od_fdiv : OpD X (binaryOp .FloorDiv) .sh .sh (rdInt CDivW fun i j => .int (i / j)) := opd_int op_fdivW fun _ _ _ _ => .int _
theorem od_lt : OpD X (compareOp .Lt) .sh .sh (rdInt (fun _ _ => True) fun i j => .bool (decide (i < j))) := opd_int0 op_lt fun _ _ _ _ => .bl _
theorem od_le : OpD X (compareOp .LtE) .sh .sh (rdInt (fun _ _ => True) fun i j => .bool (decide (i ≤ j))) := opd_int0 op_le fun _ _ _ _ => .bl _
theorem od_gt : OpD X (compareOp .Gt) .sh .sh (rdInt (fun _ _ => True) fun i j => .bool (decide (j < i))) := opd_int0 op_gt fun _ _ _ _ => .bl _
theorem od_ge : OpD X (compareOp .GtE) .sh .sh (rdInt (fun _ _ => True) fun i j => .bool (decide (j ≤ i))) := opd_int0 op_ge fun _ _ _ _ => .bl _
/-- + of ints, texts, tuples, lists -/
def rdAdd : RD2 := fun d e Q => match d, e with
  | .int i, .int j => Q (.va (.int (i + j)))
  | .str x, .str y => x.length + y.length ≤ sizeLine ∧ Q (.va (.str (x ++ y)))
  | .tuple xs, .tuple ys => xs.length + ys.length ≤ sizeLine ∧ Q (.va (.tuple (xs ++ ys)))
  | .list xs, .list ys => xs.length + ys.length ≤ sizeLine ∧ Q (.fr (xs ++ ys))
  | _, _ => False
theorem rdAdd_mo : Mo2 rdAdd := by
  intro d e Q Q' k q
  unfold rdAdd at q ⊢
  split at q <;> first | exact k _ q | exact ⟨q.1, k _ q.2⟩ | exact q.elim
theorem rv_tup {K : PySem.W.Frag} {O : List Addr} {H : Hp} {p : Addr} {xs : List V} {ds : List PyData} (hp : H p = none) (hO : ∀ a ∈ O, H a ≠ none) (h : DxAll K (hid O H) xs ds) : Dx K (hid O (upd H p (.tup xs))) (.ref p) (.tuple ds) := by
  have np : p ∉ O := fun z => hO p z hp
  refine .tup (.inl (.inl (by rw [hid_out np, upd_same]))) (DxAll.same (hid_same (fun a o _ e => same_new hp a o e) fun a m => .inl m) _ _ h)
theorem rv_lst {K : PySem.W.Frag} {O : List Addr} {H : Hp} {p : Addr} {xs : List V} {ds : List PyData} (hp : H p = none) (h : DxAll K (hid O H) xs ds) : RvR K O H (upd H p (.lst xs)) (.ref p) (.fr ds) := by
  refine ⟨p, xs, rfl, hp, upd_same, DxAll.same (hid_same (fun a o _ e => same_new hp a o e) fun a m => ?_) _ _ h⟩
  rcases List.mem_cons.mp m with rfl | m
  · exact .inr hp
  · exact .inl m
theorem od_add : OpD X (binaryOp .Add) .sh .sh rdAdd where
  ex := ⟨_, op_add.or (op_add_str.or (op_catA.or op_cat)), fun S O H x y d e Q hs hO hx hy q => by
    unfold rdAdd at q
    split at q
    · exact .inl ⟨_, _, shInt hx, shInt hy, q _ H (Same.refl H) (.int _)⟩
    · exact .inr (.inl ⟨_, _, shStr hx, shStr hy, q.1, q.2 _ H (Same.refl H) (.str _)⟩)
    · obtain ⟨a, us, rfl, h1, h2⟩ := shTup hx
      obtain ⟨b, ws, rfl, h3, h4⟩ := shTup hy
      refine .inr (.inr (.inl ⟨a, b, us, ws, rfl, rfl, SqT.same hid_sub h1, SqT.same hid_sub h3, by rw [h2.len, h4.len]; exact q.1, fun z => ?_, fun _ z => ?_, fun _ _ p hp => ?_⟩))
      · subst z
        cases h2
        exact q.2 _ H (Same.refl H) (.tup h3 h4)
      · subst z
        cases h4
        refine q.2 _ H (Same.refl H) ?_
        rw [List.append_nil]
        exact Dx.tup h1 h2
      · exact q.2 _ _ (same_new hp) (rv_tup hp hO (h2.app h4))
    · obtain ⟨a, us, rfl, h1, h2⟩ := hx
      obtain ⟨b, ws, rfl, h3, h4⟩ := hy
      exact .inr (.inr (.inr ⟨a, b, us, ws, rfl, rfl, (hid_some h1).2, (hid_some h3).2, by rw [h2.len, h4.len]; exact q.1, fun p hp => q.2 _ _ (same_new hp) (rv_lst hp (h2.app h4))⟩))
    · exact q.elim⟩
  mo := rdAdd_mo
/-- * of ints, of a list or a tuple and an int -/
def rdMul : RD2 := fun d e Q => match d, e with
  | .int i, .int j => (CMul i j ∨ CMulW i j) ∧ Q (.va (.int (i * j)))
  | .list xs, .int k => (0 ≤ k ∧ k ≤ 1000 ∧ xs.length ≤ 1000) ∧ Q (.fr (List.replicate k.toNat xs).flatten)
  | .tuple xs, .int k => (2 ≤ k ∧ k ≤ 1000 ∧ xs ≠ [] ∧ xs.length ≤ 1000) ∧ Q (.va (.tuple (List.replicate k.toNat xs).flatten))
  | _, _ => False
theorem DxAll.repl {K : PySem.W.Frag} {H : Hp} {vs : List V} {ds : List PyData} (h : DxAll K H vs ds) : ∀ n, DxAll K H (List.replicate n vs).flatten (List.replicate n ds).flatten
  | 0 => .nil
  | n + 1 => by
    rw [List.replicate_succ, List.replicate_succ, List.flatten_cons, List.flatten_cons]
    exact h.app (DxAll.repl h n)
theorem od_mul : OpD X (binaryOp .Mult) .sh .sh rdMul where
  ex := ⟨_, (op_mul.or op_mulW).or (op_rep.or op_repT), fun S O H x y d e Q hs hO hx hy q => by
    unfold rdMul at q
    split at q
    · rcases q.1 with q1 | q1
      · exact .inl (.inl ⟨_, _, shInt hx, shInt hy, q1, q.2 _ H (Same.refl H) (.int _)⟩)
      · exact .inl (.inr ⟨_, _, shInt hx, shInt hy, q1, q.2 _ H (Same.refl H) (.int _)⟩)
    · obtain ⟨a, us, rfl, h1, h2⟩ := hx
      obtain ⟨⟨q1, q2, q3⟩, q4⟩ := q
      rename_i xs k
      have hz : us.length * k.toNat ≤ 1000 * 1000 := Nat.mul_le_mul (by rw [h2.len]; exact q3) (by omega)
      exact .inr (.inl ⟨a, _, us, rfl, shInt hy, (hid_some h1).2, by omega, by omega, by rw [sizeLine_eq]; omega, fun p hp => q4 _ _ (same_new hp) (rv_lst hp (h2.repl _))⟩)
    · obtain ⟨a, us, rfl, h1, h2⟩ := shTup hx
      obtain ⟨⟨q1, q2, q3, q4⟩, q5⟩ := q
      refine .inr (.inr ⟨a, _, us, rfl, shInt hy, SqT.same hid_sub h1, fun z => ?_, q1, q2, by rw [h2.len]; exact q4, fun p hp => q5 _ _ (same_new hp) (rv_tup hp hO (h2.repl _))⟩)
      subst z
      cases h2
      exact q3 rfl
    · exact q.elim⟩
  mo := by
    intro d e Q Q' k q
    unfold rdMul at q ⊢
    split at q <;> first | exact ⟨q.1, k _ q.2⟩ | exact q.elim
/-- == and != of data -/
def rdEq (neg : Bool) : RD2 := fun d e Q => (SeqAt.shaped d = true ∧ SeqAt.shaped e = true) ∧ Q (.va (.bool (if neg then !PyData.eqv d e else PyData.eqv d e)))
theorem rdEq_mo {n : Bool} : Mo2 (rdEq n) := fun d e Q Q' k q => ⟨q.1, k _ q.2⟩
theorem lay_of {d : PyData} (h : SeqAt.shaped d = true) : d.canLay0 = true := by
  unfold SeqAt.shaped at h
  rw [Bool.and_eq_true] at h
  exact h.1
theorem boDp {K : PySem.W.Frag} {S O : List Addr} {H : Hp} {x : V} {d : PyData} (h : DM .bo K S O H x d) (n : SeqAt.shaped d = true) : Dp K H x d := Dx.dp _ _ (Dx.same hid_sub d x h) (lay_of n)
theorem od_eq (hu : X.A.units + 64 < cLine) : OpD X (compareOp .Eq) .bo .bo (rdEq false) where
  ex := ⟨_, op_eqD hu, fun S O H x y d e Q hs hO hx hy q => ⟨d, e, boDp hx q.1.1, boDp hy q.1.2, q.1.1, q.1.2, q.2 _ H (Same.refl H) (.bl _)⟩⟩
  mo := rdEq_mo
theorem od_ne (hu : X.A.units + 64 < cLine) : OpD X (compareOp .NotEq) .bo .bo (rdEq true) where
  ex := ⟨_, op_neD hu, fun S O H x y d e Q hs hO hx hy q => ⟨d, e, boDp hx q.1.1, boDp hy q.1.2, q.1.1, q.1.2, q.2 _ H (Same.refl H) (.bl _)⟩⟩
  mo := rdEq_mo
end
end DL

set_option Elab.async false
set_option linter.all false
set_option maxRecDepth 100000
set_option maxHeartbeats 4000000
/-! items, slices, built-ins, displays, calls, tests over data -/
namespace DL
open PySem PySem.Spec PyProof.Rows L2
variable [Tb]
section
variable {X : Cx} {e a b : Expr} {es : List Expr} {m m1 m2 : Md} {pos p : Pos} {rd : RD2} {wa wb : WD}
/-! ### items -/
structure IxD (X : Cx) (m1 m2 : Md) (rd : RD2) : Prop where
  ex : ∃ r, IxR X r ∧ Br2 X.K m1 m2 r rd
  mo : Mo2 rd
theorem evr_ix (ho : IxD X m1 m2 rd) (ha : Ev m1 X a wa) (hb : Ev m2 X b wb) (hs : PlainIx b := by exact fun _ _ => rfl) : EvR X (.Subscript a b pos) (w2 rd wa wb) where
  pe := by
    obtain ⟨r, h1, h2⟩ := ho.ex
    exact PE.weak (pe_ix h1 ha.pe hb.pe hs) fun σ H Q q => w2_run h2 ho.mo ha hb q
  mo := w2_mo ho.mo ha hb
def rdIxS : RD2 := fun d e Q => match d, e with
  | .list xs, .int i => match atI xs i with
    | some v => Q (.va v)
    | none => False
  | .tuple xs, .int i => match atI xs i with
    | some v => Q (.va v)
    | none => False
  | .str z, .int i => z.length ≤ sizeLine ∧ match atI z.cps.toList i with
    | some c => Q (.va (.str ⟨#[c]⟩))
    | none => False
  | _, _ => False
theorem rdIxS_mo : Mo2 rdIxS := by
  intro d e Q Q' k q
  unfold rdIxS at q ⊢
  split at q
  · split at q
    · exact k _ q
    · exact q.elim
  · split at q
    · exact k _ q
    · exact q.elim
  · refine ⟨q.1, ?_⟩
    have q2 := q.2
    split at q2
    · exact k _ q2
    · exact q2.elim
  · exact q.elim
theorem DxAll.atI {K : PySem.W.Frag} {H : Hp} {vs : List V} {ds : List PyData} (h : DxAll K H vs ds) {i : Int} {d : PyData} (e : L2.atI ds i = some d) : ∃ v, L2.atI vs i = some v ∧ Dx K H v d := by
  unfold L2.atI at e ⊢
  rw [h.len]
  cases q : ixN ds.length i with
  | none => rw [q] at e; cases e
  | some j =>
    rw [q] at e
    exact h.get (i := j) (d := d) e
theorem id_ixS_br : Br2 X.K .sh .sh (rIx X.K) rdIxS := fun S O H x y d e Q hs hO hx hy q => by
    unfold rdIxS at q
    split at q
    · rename_i xs i
      obtain ⟨a, us, rfl, h1, h2⟩ := hx
      cases at_ : L2.atI xs i with
      | none => rw [at_] at q; exact q.elim
      | some d =>
        rw [at_] at q
        obtain ⟨v, h3, h4⟩ := h2.atI at_
        exact .inl ⟨a, us, i, v, rfl, shInt hy, .inl (.inl (hid_some h1).2), h3, q v H (Same.refl H) h4⟩
    · rename_i xs i
      obtain ⟨a, us, rfl, h1, h2⟩ := shTup hx
      cases at_ : L2.atI xs i with
      | none => rw [at_] at q; exact q.elim
      | some d =>
        rw [at_] at q
        obtain ⟨v, h3, h4⟩ := h2.atI at_
        exact .inr (.inl ⟨a, us, i, v, rfl, shInt hy, SqT.same hid_sub h1, h3, q v H (Same.refl H) h4⟩)
    · rename_i z i
      obtain ⟨q1, q⟩ := q
      cases at_ : L2.atI z.cps.toList i with
      | none => rw [at_] at q; exact q.elim
      | some d =>
        rw [at_] at q
        exact .inr (.inr ⟨z, i, d, shStr hx, shInt hy, q1, at_, q _ H (Same.refl H) (.str _)⟩)
    · exact q.elim
theorem id_ixS : IxD X .sh .sh rdIxS := ⟨⟨_, ix_seq, id_ixS_br⟩, rdIxS_mo⟩
/-! ### dicts: what stands at a key -/
def lookD (es : List (PyData × PyData)) (d : PyData) : Option PyData := (es.find? fun p => p.1.eqv d).map (·.2)
def isKey : PyData → Bool
  | .int _ => true
  | .str _ => true
  | _ => false
theorem isKey_get {d : PyData} (h : isKey d = true) : ∃ k : Key, d = keyD k := by
  cases d with
  | int i => exact ⟨.inl i, rfl⟩
  | str z => exact ⟨.inr z, rfl⟩
  | _ => cases h
theorem dx_key {K : PySem.W.Frag} {H : Hp} {v : V} : ∀ {k : Key}, Dx K H v (keyD k) → v = kV k
  | .inl _, h => by cases h; rfl
  | .inr _, h => by cases h; rfl
theorem key_dx {K : PySem.W.Frag} {H : Hp} : ∀ k : Key, Dx K H (kV k) (keyD k)
  | .inl _ => .int _
  | .inr _ => .str _
theorem eqv_key : ∀ a b : Key, (keyD a).eqv (keyD b) = decide (a = b)
  | .inl i, .inl j => by simp only [keyD, PyData.eqv, Sum.inl.injEq]; rfl
  | .inr i, .inr j => by simp only [keyD, PyData.eqv, Sum.inr.injEq]; rfl
  | .inl i, .inr j => by simp [keyD, PyData.eqv]
  | .inr i, .inl j => by simp [keyD, PyData.eqv]
theorem lookD_val {K : PySem.W.Frag} {H : Hp} (k : Key) : ∀ (kvs : List (Key × V)) (es : List (PyData × PyData)), es.map (·.1) = kvs.map (fun p => keyD p.1) → DxAll K H (kvs.map (·.2)) (es.map (·.2)) →
    (valV kvs k = none ∧ lookD es (keyD k) = none) ∨ ∃ v d, valV kvs k = some v ∧ lookD es (keyD k) = some d ∧ Dx K H v d
  | [], [], _, _ => .inl ⟨rfl, rfl⟩
  | [], _ :: _, e, _ => by cases e
  | _ :: _, [], e, _ => by cases e
  | p :: kvs, q :: es, e, h => by
    rw [List.map_cons, List.map_cons] at e h
    injection e with e1 e2
    cases h with
    | cons h1 h2 =>
      unfold lookD
      rw [List.find?_cons, e1, eqv_key]
      by_cases z : p.1 = k
      · rw [decide_eq_true z, valV_pos z]
        exact .inr ⟨_, _, rfl, rfl, h1⟩
      · rw [decide_eq_false z, valV_neg z]
        exact lookD_val k kvs es e2 h2
theorem DE.look {K : PySem.W.Frag} {H : Hp} {o : HO} {es : List (PyData × PyData)} (h : DE K H o es) (k : Key) : ∃ kvs, o = .dK kvs ∧
    ((valV kvs k = none ∧ lookD es (keyD k) = none) ∨ ∃ v d, valV kvs k = some v ∧ lookD es (keyD k) = some d ∧ Dx K H v d) := by
  obtain ⟨vs, ⟨kvs, rfl, e1, rfl⟩, h⟩ := h
  exact ⟨kvs, rfl, lookD_val k kvs es e1 h⟩
theorem ix_dict {X : Cx} (hu : X.A.units + 1 < cLine) : IxR X (fun x y H Q => ∃ (a : Addr) (kvs : List (Key × V)) (k : Key) (v : V), x = .ref a ∧ y = kV k ∧ H a = some (.dK kvs) ∧ valV kvs k = some v ∧ Q v H) := by
  intro value slice pins s σ H x y v u Q I rx ry h hs
  obtain ⟨a, kvs, k, w, rfl, rfl, e, ev, q⟩ := h
  cases rx
  have g : DGet H a (kV k) (some w) := by rw [← ev]; exact DGet.k e
  exact tail_any (dict_typeIs I g) slot_dict_getitem.lookup (d_getItem hu I g ry fun w' s' I' r => ⟨w, H, I', r, q⟩) hs
def rdIx : RD2 := fun d e Q => match d, e with
  | .list xs, .int i => match atI xs i with
    | some v => Q (.va v)
    | none => False
  | .tuple xs, .int i => match atI xs i with
    | some v => Q (.va v)
    | none => False
  | .str z, .int i => z.length ≤ sizeLine ∧ match atI z.cps.toList i with
    | some c => Q (.va (.str ⟨#[c]⟩))
    | none => False
  | .dict es, k => isKey k = true ∧ match lookD es k with
    | some v => Q (.va v)
    | none => False
  | _, _ => False
theorem rdIx_old {d e : PyData} {Q : RV → Prop} (n : ∀ es, d ≠ .dict es) : rdIx d e Q ↔ rdIxS d e Q := by
  cases d with
  | dict es => exact absurd rfl (n es)
  | _ => cases e <;> exact Iff.rfl
theorem rdIx_mo : Mo2 rdIx := by
  intro d e Q Q' k q
  cases d with
  | dict es =>
    refine ⟨q.1, ?_⟩
    have q2 := q.2
    split at q2
    · exact k _ q2
    · exact q2.elim
  | _ => exact (rdIx_old (fun _ z => by cases z)).mpr (rdIxS_mo _ _ _ _ k ((rdIx_old (fun _ z => by cases z)).mp q))
theorem id_ix (hu : X.A.units + 64 < cLine) : IxD X .sh .sh rdIx where
  ex := ⟨_, ix_seq.or (ix_dict (Nat.lt_of_le_of_lt (by omega) hu)), fun S O H x y d e Q hs hO hx hy q => by
    have key : (∀ es, d ≠ .dict es) → rdIxS d e (fun z => ∀ v H', Same H H' → RvR X.K O H H' v z → Q v H') → rIx X.K x y H Q := fun _ q => by
      have := (id_ixS_br (X := X)) S O H x y d e Q hs hO hx hy q
      exact this
    cases d with
    | dict es =>
      obtain ⟨kb, q2⟩ := q
      obtain ⟨k, rfl⟩ := isKey_get kb
      obtain ⟨a, o, rfl, h1, h2⟩ := hx
      obtain ⟨kvs, rfl, h3 | ⟨v, d, h3, h4, h5⟩⟩ := h2.look k
      · rw [h3.2] at q2; exact q2.elim
      · rw [h4] at q2
        have hy : Dx X.K (hid O H) y (keyD k) := by cases k <;> exact hy
        exact .inr ⟨a, kvs, k, v, rfl, dx_key hy, (hid_some h1).2, h3, q2 v H (Same.refl H) h5⟩
    | _ => exact .inl (key (fun _ z => by cases z) ((rdIx_old (fun _ z => by cases z)).mp q))⟩
  mo := rdIx_mo

/-! ### slices -/
def cutD {α : Type} (xs : List α) (lo hi : Option Int) : List α := (xs.drop (HT.sIx xs.length 0 lo)).take (HT.sIx xs.length xs.length hi - HT.sIx xs.length 0 lo)
theorem DxAll.cut {K : PySem.W.Frag} {H : Hp} {vs : List V} {ds : List PyData} (h : DxAll K H vs ds) (lo hi : Option Int) : DxAll K H (cutV vs lo hi) (cutD ds lo hi) := by
  unfold cutV cutD
  rw [h.len]
  exact (h.drop _).take _
abbrev WO := SD → (Option Int → Prop) → Prop
def tO (K : PySem.W.Frag) (w : WO) : TO := fun σ H Q => ∃ (c : Cd) (sd : SD) (os : List (Option Addr)), c.K = K ∧ R c sd os σ H ∧
  w sd fun r => ∀ H', Ext c.S H H' → Q r H'
structure EvO (X : Cx) (e : Option Expr) (w : WO) : Prop where
  po : PO X e (tO X.K w)
  mo : ∀ sd (Q Q' : Option Int → Prop), (∀ r, Q r → Q' r) → w sd Q → w sd Q'
theorem PO.weak {e : Option Expr} {t t' : TO} (h : PO X e t) (k : ∀ σ H Q, t' σ H Q → t σ H Q) : PO X e t' :=
  ⟨fun pins s σ H Q I q => h.run pins s σ H Q I (k σ H Q q)⟩
theorem evo_none : EvO X none (fun _ Q => Q none) :=
  ⟨PO.weak po_none fun σ H Q ⟨c, sd, os, hk, r, q⟩ => q H Ext.refl, fun _ _ _ k q => k _ q⟩
def wPart (w : WD) : WO := fun sd Q => w sd fun d => match d with
  | .int i => Q (some i)
  | _ => False
theorem evo_some {w : WD} (h : Ev .sh X e w) : EvO X (some e) (wPart w) where
  po := PO.weak (po_some h.pe) fun σ H Q ⟨c, sd, os, hk, r, q⟩ => ⟨c, sd, os, hk, r, h.mo _ _ _ (fun d k v H' x dm => by
    cases d with
    | int i => exact ⟨i, shInt dm, k H' x⟩
    | _ => exact k.elim) q⟩
  mo := fun sd Q Q' k q => h.mo _ _ _ (fun d z => by
    cases d with
    | int i => exact k _ z
    | _ => exact z.elim) q
def rdSl (d : PyData) (lo hi : Option Int) (Q : RV → Prop) : Prop := match d with
  | .list xs => Q (.fr (cutD xs lo hi))
  | .tuple xs => Q (.va (.tuple (cutD xs lo hi)))
  | .str z => z.length ≤ sizeLine ∧ Q (.va (.str (cutS z lo hi)))
  | _ => False
theorem evr_slice {lo hi : Option Expr} {p2 : Pos} {wl wh : WO} (ha : Ev .sh X a wa) (hl : EvO X lo wl) (hh : EvO X hi wh) :
    EvR X (.Subscript a (.Slice lo hi none p2) pos) (fun sd Q => wa sd fun d => wl sd fun l => wh sd fun h => rdSl d l h Q) where
  pe := PE.weak (pe_slice (sl_list.or (sl_tupA.or sl_str)) ha.pe hl.po hh.po) fun σ H Q ⟨c, sd, os, hk, r, q⟩ =>
    ⟨c, sd, os, hk, r, ha.mo _ _ _ (fun d k v H1 x1 d1 => ⟨c, sd, os, hk, r.grow x1, hl.mo _ _ _ (fun l k2 H2 x2 =>
      ⟨c, sd, os, hk, r.grow (x1.trans x2), hh.mo _ _ _ (fun h k3 H3 x3 => by
        have x := (x1.trans x2).trans x3
        have rr := r.grow x
        have d3 := DM.grow r.sO (x2.trans x3) d1
        have ht : ∀ a ∈ OO c os, H3 a ≠ none := fun a m => rr.there m
        unfold rdSl at k3
        split at k3
        · obtain ⟨a, us, rfl, h1, h2⟩ := d3
          exact .inl ⟨a, us, rfl, .inl (.inl (hid_some h1).2), fun p hp => k3 _ _ (x.trans (Ext.of (same_new hp))) (RvR.from r.sO ht x (rv_lst hp (h2.cut _ _)))⟩
        · obtain ⟨a, us, rfl, h1, h2⟩ := shTup d3
          refine .inr (.inl ⟨a, us, rfl, SqT.same hid_sub h1, fun z => ?_, fun _ p hp => k3 _ _ (x.trans (Ext.of (same_new hp))) (rv_tup hp ht (h2.cut _ _))⟩)
          refine k3 _ H3 x (.tup h1 ?_)
          have e : cutV us l h = us := by
            unfold cutV
            rw [z.1, z.2]
            simp
          rw [← e]
          exact h2.cut _ _
        · exact .inr (.inr ⟨_, shStr d3, k3.1, k3.2 _ H3 x (.str _)⟩)
        · exact k3.elim) k2⟩) k⟩) q⟩
  mo := fun sd Q Q' k q => ha.mo _ _ _ (fun d z => hl.mo _ _ _ (fun l z => hh.mo _ _ _ (fun h z => by
    unfold rdSl at z ⊢
    split at z <;> first | exact k _ z | exact ⟨z.1, k _ z.2⟩ | exact z.elim) z) z) q
end
end DL

set_option Elab.async false
set_option linter.all false
set_option maxRecDepth 100000
set_option maxHeartbeats 4000000
/-! calls, displays, tests over data -/
namespace DL
open PySem PySem.Spec PyProof.Rows L2
variable [Tb]

/-! ### arguments and promises -/
inductive AV where
  | va (d : PyData)
  | so
  | fn (f : Addr)
inductive DAs (m : Md) (K : PySem.W.Frag) (S O : List Addr) (H : Hp) : List V → List AV → Prop
  | nil : DAs m K S O H [] []
  | va {v : V} {vs : List V} {d : PyData} {as : List AV} : DM m K S O H v d → DAs m K S O H vs as → DAs m K S O H (v :: vs) (.va d :: as)
  | so {x y : Addr} {vs : List V} {as : List AV} : S = x :: y :: Tb.Ts → DAs m K S O H vs as → DAs m K S O H (V.ref x :: vs) (.so :: as)
  | fn {f : Addr} {vs : List V} {as : List AV} : DAs m K S O H vs as → DAs m K S O H (V.ref f :: vs) (.fn f :: as)
theorem DAs.grow {m : Md} {K : PySem.W.Frag} {S O : List Addr} {H H' : Hp} (hs : ∀ a ∈ S, a ∈ O) (x : Ext S H H') : ∀ {vs : List V} {ds : List AV}, DAs m K S O H vs ds → DAs m K S O H' vs ds
  | _, _, .nil => .nil
  | _, _, .va h t => .va (DM.grow hs x h) (DAs.grow hs x t)
  | _, _, .so h t => .so h (DAs.grow hs x t)
  | _, _, .fn t => .fn (DAs.grow hs x t)
theorem DAs.bo {K : PySem.W.Frag} {S O : List Addr} {H : Hp} : ∀ {vs : List V} {ds : List AV}, DAs .bo K S O H vs ds → DAs .cl K S S H vs ds
  | _, _, .nil => .nil
  | _, _, .va h t => .va h (DAs.bo t)
  | _, _, .so h t => .so h (DAs.bo t)
  | _, _, .fn t => .fn (DAs.bo t)
theorem DAs.len {m : Md} {K : PySem.W.Frag} {S O : List Addr} {H : Hp} : ∀ {vs : List V} {ds : List AV}, DAs m K S O H vs ds → vs.length = ds.length
  | _, _, .nil => rfl
  | _, _, .va h t => by rw [List.length_cons, List.length_cons, DAs.len t]
  | _, _, .so h t => by rw [List.length_cons, List.length_cons, DAs.len t]
  | _, _, .fn t => by rw [List.length_cons, List.length_cons, DAs.len t]
abbrev FSp := List AV → (RV → Prop) → Prop
def MoF (fs : FSp) : Prop := ∀ as (Q Q' : RV → Prop), (∀ r, Q r → Q' r) → fs as Q → fs as Q'
/-- a def's promise in data -/
def PSp (K : PySem.W.Frag) (n : Nat) (fs : FSp) : Sp := fun vs H Q _ => ∃ (S Oc : List Addr) (as : List AV), SrcOk H S ∧ (∀ a ∈ S, a ∈ Oc) ∧ OcOk H S Oc ∧
  DAs .cl K S Oc H vs as ∧ as.length = n ∧ fs as fun r => ∀ v H', Ext S H H' → RvR K Oc H H' v r → Q v H'
abbrev WA := SD → (List AV → Prop) → Prop
def tAr (m : Md) (K : PySem.W.Frag) (w : WA) : TA := fun σ H Q => ∃ (c : Cd) (sd : SD) (os : List (Option Addr)), c.K = K ∧ R c sd os σ H ∧
  w sd fun ds => ∀ vs H', Ext c.S H H' → DAs m K c.S (OO c os) H' vs ds → Q vs H'
structure EvA (m : Md) (X : Cx) (es : List Expr) (w : WA) : Prop where
  pa : PA X es (tAr m X.K w)
  mo : ∀ sd (Q Q' : List AV → Prop), (∀ r, Q r → Q' r) → w sd Q → w sd Q'
mutual
def noL : PyData → Bool
  | .list _ => false
  | .dict _ => false
  | .tuple ds => noLs ds
  | _ => true
def noLs : List PyData → Bool
  | [] => true
  | d :: ds => noL d && noLs ds
end
@[reducible] def RV.noL : RV → Bool
  | .va d => DL.noL d
  | .fr ds => noLs ds
  | .fd _ => false
section
variable {K : PySem.W.Frag} {S O : List Addr} {H : Hp}
theorem SqT.out {a : Addr} {xs : List V} (oc : OcOk H S O) (h : SqT K (hid S H) a xs) : SqT K (hid O H) a xs := by
  have key : ∀ {u : HO}, hid S H a = some u → ¬ IsOwn u → hid O H a = some u := by
    intro u e n
    obtain ⟨m, e⟩ := hid_some e
    rw [hid_out]
    · exact e
    · intro z
      rcases oc a z with q | ⟨o, q, w⟩
      · exact m q
      · rw [e] at q; cases q; exact n w
  rcases h with (h | ⟨o, h⟩) | h
  · exact .inl (.inl (key h fun z => z.1 _ rfl))
  · exact .inl (.inr ⟨o, key h fun z => z.2 _ _ rfl⟩)
  · exact .inr h
mutual
theorem Dx.out (oc : OcOk H S O) : ∀ (d : PyData) (v : V), Dx K (hid S H) v d → noL d = true → Dx K (hid O H) v d
  | _, _, .non, _ => .non
  | _, _, .bl b, _ => .bl b
  | _, _, .int i, _ => .int i
  | _, _, .str x, _ => .str x
  | _, _, .lst _ _, n => by simp [noL] at n
  | _, _, .dct _ _ _, n => by simp [noL] at n
  | _, _, .tup (ds := ds) h q, n => .tup (SqT.out oc h) (DxAll.out oc ds _ q (by simpa [noL] using n))
theorem DxAll.out (oc : OcOk H S O) : ∀ (ds : List PyData) (vs : List V), DxAll K (hid S H) vs ds → noLs ds = true → DxAll K (hid O H) vs ds
  | _, _, .nil, _ => .nil
  | _, _, .cons (d := d) (ds := ds) h q, n => by
    simp only [noLs, Bool.and_eq_true] at n
    exact .cons (Dx.out oc d _ h n.1) (DxAll.out oc ds _ q n.2)
end
end

section
variable {X : Cx} {e a b : Expr} {es : List Expr} {m m1 m2 : Md} {pos p : Pos}
theorem eva_nil : EvA m X [] (fun _ Q => Q []) :=
  ⟨PA.weak pa_nil fun σ H Q ⟨c, sd, os, hk, r, q⟩ => q [] H Ext.refl .nil, fun _ _ _ k q => k _ q⟩
theorem eva_cons {w : WD} {ws : WA} (h : Ev m X e w) (t : EvA m X es ws) (hs : starEach (e :: es) X.env = (false, eval e X.env) :: starEach es X.env := by rfl) :
    EvA m X (e :: es) (fun sd Q => w sd fun d => ws sd fun ds => Q (.va d :: ds)) where
  pa := PA.weak (pa_cons h.pe t.pa hs) fun σ H Q ⟨c, sd, os, hk, r, q⟩ =>
    ⟨c, sd, os, hk, r, h.mo _ _ _ (fun d k v H1 x1 d1 => ⟨c, sd, os, hk, r.grow x1, t.mo _ _ _ (fun ds k2 vs H2 x2 d2 =>
      k2 (v :: vs) H2 (x1.trans x2) (.va (DM.grow r.sO x2 d1) d2)) k⟩) q⟩
  mo := fun sd Q Q' k q => h.mo _ _ _ (fun d z => t.mo _ _ _ (fun ds z => k _ z) z) q
def wSo (i : Nat) (ws : WA) : WA := fun sd Q => match getS sd i with
  | .so => ws sd fun ds => Q (.so :: ds)
  | _ => False
theorem eva_so {ws : WA} {x : Str} (i : Nat) (t : EvA m X es ws) (hN : X.N[i]? = some x := by rfl)
    (hv : Vis X.env.scope x := by first | exact Or.inl rfl | exact Or.inr (Or.inl rfl) | exact Or.inr (Or.inr rfl))
    (hd : (x == ("__debug__" : Str)) = false := by decide) (hcd : (x == ("__classdict__" : Str)) = false := by decide)
    (hs : starEach (.Name x pos :: es) X.env = (false, eval (.Name x pos) X.env) :: starEach es X.env := by rfl) : EvA m X (.Name x pos :: es) (wSo i ws) where
  pa := PA.weak (pa_cons (pe_var hN hv hd hcd) t.pa hs) fun σ H Q ⟨c, sd, os, hk, r, q⟩ => by
    unfold wSo at q
    cases e : getS sd i with
    | so =>
      rw [e] at q
      obtain ⟨v, oa, h1, h2, h3, x, y, h4, rfl⟩ := r.at_ e (by intro z; cases z)
      exact ⟨_, h1, c, sd, os, hk, r, t.mo _ _ _ (fun ds k2 vs H2 x2 d2 => k2 _ H2 x2 (.so h4 d2)) q⟩
    | un => rw [e] at q; exact q.elim
    | fn _ => rw [e] at q; exact q.elim
    | od _ => rw [e] at q; exact q.elim
    | va d => rw [e] at q; exact q.elim
    | ow ds => rw [e] at q; exact q.elim
  mo := fun sd Q Q' k q => by
    unfold wSo at q ⊢
    cases e : getS sd i with
    | so => rw [e] at q; exact t.mo _ _ _ (fun ds z => k _ z) q
    | fn _ => rw [e] at q; exact q.elim
    | od _ => rw [e] at q; exact q.elim
    | un => rw [e] at q; exact q.elim
    | va d => rw [e] at q; exact q.elim
    | ow ds => rw [e] at q; exact q.elim

/-! ### calls of one's own defs -/
section
variable {k n : Nat} {f : Addr} {fd : FuncData} {ps : List Str} {fs : FSp} {x : Str} {wa : WA}
theorem evr_call (F : FnG X.prog X.w X.K X.mg X.base CX0 k f fd ps (PSp X.K n fs)) (hmo : MoF fs) (hr : RmG k X.A) (hm : X.mg x = some (.ref f))
    (hk : PySem.W.keepIn X.K (.ref f) = true) (hb : Binds X.K fd ps []) (ha : EvA .cl X (e :: es) wa) (hg : Gl X x := by rfl)
    (hdb : (x == ("__debug__" : Str)) = false := by decide)
    (he : starEach (e :: es) X.env = (false, eval e X.env) :: starEach es X.env := by rfl)
    (hpl : (backTo pos (starEach es X.env)).any (·.1) = false := by rfl) :
    EvR X (.Call (.Name x p) (e :: es) [] pos) (fun sd Q => wa sd fun as => as.length = n ∧ fs as Q) where
  pe := PE.weak (pe_callG F hr hg hm hk hb pass0 ha.pa hdb he hpl) fun σ H Q ⟨c, sd, os, hk, r, q⟩ =>
    ⟨c, sd, os, hk, r, ha.mo _ _ _ (fun as kq vs H1 x1 d1 => ⟨c.S, OO c os, as, (r.grow x1).srcNow, r.sO, (r.grow x1).ocNow, d1, kq.1, hmo _ _ _ (fun z kz v H' x2 rv =>
      kz v H' (x1.trans x2) (RvR.from r.sO (fun a m => (r.grow x1).there m) x1 rv)) kq.2⟩) q⟩
  mo := fun sd Q Q' k q => ha.mo _ _ _ (fun as z => ⟨z.1, hmo _ _ _ k z.2⟩) q
/-- the arguments may be lists of one's own: then nothing that holds a list comes back -/
theorem evr_callB (F : FnG X.prog X.w X.K X.mg X.base CX0 k f fd ps (PSp X.K n fs)) (hmo : MoF fs) (hr : RmG k X.A) (hm : X.mg x = some (.ref f))
    (hk : PySem.W.keepIn X.K (.ref f) = true) (hb : Binds X.K fd ps []) (ha : EvA .bo X (e :: es) wa) (hg : Gl X x := by rfl)
    (hdb : (x == ("__debug__" : Str)) = false := by decide)
    (he : starEach (e :: es) X.env = (false, eval e X.env) :: starEach es X.env := by rfl)
    (hpl : (backTo pos (starEach es X.env)).any (·.1) = false := by rfl) :
    EvR X (.Call (.Name x p) (e :: es) [] pos) (fun sd Q => wa sd fun as => as.length = n ∧ fs as fun r => r.noL = true ∧ Q r) where
  pe := PE.weak (pe_callG F hr hg hm hk hb pass0 ha.pa hdb he hpl) fun σ H Q ⟨c, sd, os, hk, r, q⟩ =>
    ⟨c, sd, os, hk, r, ha.mo _ _ _ (fun as kq vs H1 x1 d1 => ⟨c.S, c.S, as, (r.grow x1).srcNow, fun _ h => h, fun a m => .inl m, d1.bo, kq.1, hmo _ _ _ (fun z kz v H' x2 rv => by
      have rr := r.grow (x1.trans x2)
      refine kz.2 v H' (x1.trans x2) (RvR.from r.sO (fun a m => (r.grow x1).there m) x1 ?_)
      cases z with
      | va d => exact Dx.out rr.ocNow _ _ rv kz.1
      | fr ds =>
        obtain ⟨p, xs, e1, e2, e3, e4⟩ := rv
        refine ⟨p, xs, e1, e2, e3, DxAll.out (S := c.S) (fun a m => ?_) _ _ (DxAll.same (hid_same (fun _ _ _ h => h) fun a m => .inl (List.mem_cons_of_mem _ m)) _ _ e4) kz.1⟩
        rcases List.mem_cons.mp m with rfl | m
        · exact .inr ⟨_, e3, own_lst⟩
        · exact rr.ocNow a m
      | fd es => exact (Bool.false_ne_true kz.1).elim) kq.2⟩) q⟩
  mo := fun sd Q Q' k q => ha.mo _ _ _ (fun as z => ⟨z.1, hmo _ _ _ (fun r y => ⟨y.1, k _ y.2⟩) z.2⟩) q
end

/-! ### built-ins -/
section
variable {rd : RDn} {wl : WL} {x : Str}
theorem wn_run {r : List V → Hp → VK → Prop} (hr : BrN X.K m r rd) (hmo : MoN rd) (ha : EvL m X es wl) {σ : L2.St} {H : Hp} {Q : VK} (q : tR X.K (fun sd Q => wl sd fun ds => rd ds Q) σ H Q) :
    tLi m X.K wl σ H fun xs H1 => r xs H1 Q := by
  obtain ⟨c, sd, os, hk, rr, q⟩ := q
  refine ⟨c, sd, os, hk, rr, ha.mo _ _ _ (fun ds k vs H1 x1 d1 => ?_) q⟩
  exact hr c.S (OO c os) H1 vs ds Q rr.sO (fun a m => (rr.grow x1).there m) d1 (hmo _ _ _ (fun z kz v' H' s rv => kz v' H' (x1.trans (Ext.of s)) (RvR.from rr.sO (fun a m => (rr.grow x1).there m) x1 rv)) k)
theorem evr_blt {id : String} (hc : CallD X (.builtin id) m rd) (hm : X.mg x = none) (hv : bootBuiltins x = some (.builtin id)) (ha : EvL m X (e :: es) wl) (hg : Gl X x := by rfl) (hn : x ≠ "__name__" := by decide) (hdb : (x == ("__debug__" : Str)) = false := by decide)
    (he : starEach (e :: es) X.env = (false, eval e X.env) :: starEach es X.env := by rfl) (hpl : (backTo pos (starEach es X.env)).any (·.1) = false := by rfl) :
    EvR X (.Call (.Name x p) (e :: es) [] pos) (fun sd Q => wl sd fun ds => rd ds Q) where
  pe := by
    obtain ⟨r, h1, h2⟩ := hc.ex
    exact PE.weak (pe_callB h1 hg hm hv ha.pa (hn := hn) (hdb := hdb) (he := he) (hpl := hpl)) fun σ H Q q => wn_run h2 hc.mo ha q
  mo := fun sd Q Q' k q => ha.mo _ _ _ (fun ds z => hc.mo _ _ _ k z) q
theorem evr_typ {id : String} (hc : CallD X (.type id) m rd) (hm : X.mg x = none) (hv : bootBuiltins x = some (.type id)) (ha : EvL m X (e :: es) wl) (hg : Gl X x := by rfl) (hn : x ≠ "__name__" := by decide) (hdb : (x == ("__debug__" : Str)) = false := by decide)
    (he : starEach (e :: es) X.env = (false, eval e X.env) :: starEach es X.env := by rfl) (hpl : (backTo pos (starEach es X.env)).any (·.1) = false := by rfl) :
    EvR X (.Call (.Name x p) (e :: es) [] pos) (fun sd Q => wl sd fun ds => rd ds Q) where
  pe := by
    obtain ⟨r, h1, h2⟩ := hc.ex
    exact PE.weak (pe_callTy h1 hg hm hv ha.pa (hn := hn) (hdb := hdb) (he := he) (hpl := hpl)) fun σ H Q q => wn_run h2 hc.mo ha q
  mo := fun sd Q Q' k q => ha.mo _ _ _ (fun ds z => hc.mo _ _ _ k z) q
end
end
end DL

set_option Elab.async false
set_option linter.all false
set_option maxRecDepth 100000
set_option maxHeartbeats 4000000
/-! the built-ins one by one; displays; tests -/
namespace DL
open PySem PySem.Spec PyProof.Rows L2
variable [Tb]
section
variable {X : Cx} {e a b : Expr} {es : List Expr} {m m1 m2 : Md} {pos p : Pos}
/-! ### one-argument built-ins -/
def rd1 (f : PyData → (RV → Prop) → Prop) : RDn := fun ds Q => match ds with
  | [d] => f d Q
  | _ => False
theorem rd1_mo {f : PyData → (RV → Prop) → Prop} (h : ∀ d (Q Q' : RV → Prop), (∀ z, Q z → Q' z) → f d Q → f d Q') : MoN (rd1 f) := by
  intro ds Q Q' k q
  unfold rd1 at q ⊢
  split at q
  · exact h _ _ _ k q
  · exact q.elim
theorem rd1_br {K : PySem.W.Frag} {r : List V → Hp → VK → Prop} {f : PyData → (RV → Prop) → Prop}
    (h : ∀ (S O : List Addr) (H : Hp) (x : V) (d : PyData) (Q : VK), (∀ a ∈ S, a ∈ O) → (∀ a ∈ O, H a ≠ none) → DM m K S O H x d → f d (fun z => ∀ v H', Same H H' → RvR K O H H' v z → Q v H') → r [x] H Q) :
    BrN K m r (rd1 f) := by
  intro S O H xs ds Q hs hO hd q
  unfold rd1 at q
  split at q
  · cases hd with
    | cons h1 h2 =>
      cases h2
      exact h S O H _ _ Q hs hO h1 q
  · exact q.elim
def dLen (d : PyData) (Q : RV → Prop) : Prop := match d with
  | .list xs => Q (.va (.int xs.length))
  | .tuple xs => Q (.va (.int xs.length))
  | .str z => z.length ≤ sizeLine ∧ Q (.va (.int z.length))
  | _ => False
theorem cd_len : CallD X (.builtin "len") .sh (rd1 dLen) where
  ex := ⟨_, call_len_seq.or call_len_str, rd1_br fun S O H x d Q hs hO hd q => by
    unfold dLen at q
    split at q
    · obtain ⟨a, us, rfl, h1, h2⟩ := hd
      exact .inl ⟨a, us, rfl, .inl (.inl (.inl (hid_some h1).2)), q _ H (Same.refl H) (by rw [h2.len]; exact Dx.int _)⟩
    · obtain ⟨a, us, rfl, h1, h2⟩ := shTup hd
      exact .inl ⟨a, us, rfl, .inr (SqT.same hid_sub h1), q _ H (Same.refl H) (by rw [h2.len]; exact Dx.int _)⟩
    · exact .inr ⟨_, by rw [shStr hd], q.1, q.2 _ H (Same.refl H) (.int _)⟩
    · exact q.elim⟩
  mo := rd1_mo fun d Q Q' k q => by
    unfold dLen at q ⊢
    split at q <;> first | exact k _ q | exact ⟨q.1, k _ q.2⟩ | exact q.elim
def dTuple (d : PyData) (Q : RV → Prop) : Prop := match d with
  | .list xs => Q (.va (.tuple xs))
  | .tuple xs => Q (.va (.tuple xs))
  | _ => False
theorem cd_tuple : CallD X (.type "tuple") .sh (rd1 dTuple) where
  ex := ⟨_, call_tuple_of, rd1_br fun S O H x d Q hs hO hd q => by
    unfold dTuple at q
    split at q
    · obtain ⟨a, us, rfl, h1, h2⟩ := hd
      exact ⟨a, us, rfl, .inl ⟨.inl (.inl (hid_some h1).2), fun p hp => q _ _ (same_new hp) (rv_tup hp hO h2)⟩⟩
    · obtain ⟨a, us, rfl, h1, h2⟩ := shTup hd
      exact ⟨a, us, rfl, .inr ⟨SqT.same hid_sub h1, q _ H (Same.refl H) (.tup h1 h2)⟩⟩
    · exact q.elim⟩
  mo := rd1_mo fun d Q Q' k q => by
    unfold dTuple at q ⊢
    split at q <;> first | exact k _ q | exact q.elim
def dList (d : PyData) (Q : RV → Prop) : Prop := match d with
  | .list xs => Q (.fr xs)
  | .tuple xs => Q (.fr xs)
  | _ => False
theorem cd_list : CallD X (.type "list") .sh (rd1 dList) where
  ex := ⟨_, call_list_of, rd1_br fun S O H x d Q hs hO hd q => by
    unfold dList at q
    split at q
    · obtain ⟨a, us, rfl, h1, h2⟩ := hd
      exact ⟨a, us, rfl, .inl (.inl (.inl (hid_some h1).2)), fun p hp => q _ _ (same_new hp) (rv_lst hp h2)⟩
    · obtain ⟨a, us, rfl, h1, h2⟩ := shTup hd
      exact ⟨a, us, rfl, .inr (SqT.same hid_sub h1), fun p hp => q _ _ (same_new hp) (rv_lst hp h2)⟩
    · exact q.elim⟩
  mo := rd1_mo fun d Q Q' k q => by
    unfold dList at q ⊢
    split at q <;> first | exact k _ q | exact q.elim
/-- the text of data -/
def okShow (d : PyData) : Prop := (d.showable = true ∧ SeqAt.shaped d = true) ∧ d.shown.length ≤ sizeLine
def dRepr (d : PyData) (Q : RV → Prop) : Prop := okShow d ∧ Q (.va (.str d.shown))
theorem cd_repr (hr : RmG 1 X.A) : CallD X (.builtin "repr") .bo (rd1 dRepr) where
  ex := ⟨_, call_reprD hr.gd (by have := hr.rm.un; omega), rd1_br fun S O H x d Q hs hO hd q =>
    ⟨x, d, rfl, boDp hd q.1.1.2, q.1.1.1, q.1.1.2, q.1.2, q.2 _ H (Same.refl H) (.str _)⟩⟩
  mo := rd1_mo fun d Q Q' k q => ⟨q.1, k _ q.2⟩
def dInt (d : PyData) (Q : RV → Prop) : Prop := match d with
  | .int i => Q (.va (.int i))
  | .bool b => Q (.va (.int (if b then 1 else 0)))
  | _ => False
theorem cd_int : CallD X (.type "int") .sh (rd1 dInt) where
  ex := ⟨_, call_int1, rd1_br fun S O H x d Q hs hO hd q => by
    unfold dInt at q
    split at q
    · exact .inl ⟨_, by rw [shInt hd], q _ H (Same.refl H) (.int _)⟩
    · exact .inr ⟨_, by rw [shBl hd], q _ H (Same.refl H) (.int _)⟩
    · exact q.elim⟩
  mo := rd1_mo fun d Q Q' k q => by
    unfold dInt at q ⊢
    split at q <;> first | exact k _ q | exact q.elim
def dAbs (d : PyData) (Q : RV → Prop) : Prop := match d with
  | .int i => Q (.va (.int (if i < 0 then -i else i)))
  | _ => False
theorem cd_abs : CallD X (.builtin "abs") .sh (rd1 dAbs) where
  ex := ⟨_, call_abs, rd1_br fun S O H x d Q hs hO hd q => by
    unfold dAbs at q
    split at q
    · exact ⟨_, by rw [shInt hd], q _ H (Same.refl H) (.int _)⟩
    · exact q.elim⟩
  mo := rd1_mo fun d Q Q' k q => by
    unfold dAbs at q ⊢
    split at q <;> first | exact k _ q | exact q.elim

/-! ### displays -/
theorem ev_tup {wl : WL} {x1} (h : EvL .cl X es wl) : EvR X (.Tuple es x1 pos) (fun sd Q => wl sd fun ds => ds.length ≤ sizeLine ∧ Q (.va (.tuple ds))) where
  pe := PE.weak (pe_tup h.pa) fun σ H Q ⟨c, sd, os, hk, r, q⟩ => ⟨c, sd, os, hk, r, h.mo _ _ _ (fun ds k vs H1 x1 d1 => by
    have da := DMs.all r.sO d1
    refine ⟨by rw [da.len]; exact k.1, fun p hp => k.2 _ _ (x1.trans (Ext.of (same_new hp))) (rv_tup hp (fun a m => (r.grow x1).there m) da)⟩) q⟩
  mo := fun sd Q Q' k q => h.mo _ _ _ (fun ds z => ⟨z.1, k _ z.2⟩) q
theorem ev_lst {wl : WL} (h : EvL .cl X es wl) : EvR X (.List es pos) (fun sd Q => wl sd fun ds => ds.length ≤ sizeLine ∧ Q (.fr ds)) where
  pe := PE.weak (pe_lst h.pa) fun σ H Q ⟨c, sd, os, hk, r, q⟩ => ⟨c, sd, os, hk, r, h.mo _ _ _ (fun ds k vs H1 x1 d1 => by
    have da := DMs.all r.sO d1
    refine ⟨by rw [da.len]; exact k.1, fun p hp => k.2 _ _ (x1.trans (Ext.of (same_new hp))) (RvR.from r.sO (fun a m => (r.grow x1).there m) x1 (rv_lst hp da))⟩) q⟩
  mo := fun sd Q Q' k q => h.mo _ _ _ (fun ds z => ⟨z.1, k _ z.2⟩) q

/-! ### tests -/
def truD : PyData → Option Bool
  | .none => some false
  | .bool b => some b
  | .int i => some (i != 0)
  | .list ds => some (!ds.isEmpty)
  | .tuple ds => some (!ds.isEmpty)
  | _ => none
def wTru (w : WD) : WB := fun sd Q => w sd fun d => match truD d with
  | some b => Q b
  | none => False
theorem DxAll.emp {K : PySem.W.Frag} {H : Hp} {vs : List V} {ds : List PyData} (h : DxAll K H vs ds) : vs.isEmpty = ds.isEmpty := by
  cases h <;> rfl
theorem tru_run {w : WD} (h : Ev .sh X e w) {σ : L2.St} {H : Hp} {Q : Bool → Hp → Prop} (q : tTe X.K (wTru w) σ H Q) : tM .sh X.K w σ H fun x H' => ∃ k, TruV X.K x H' k ∧ Q k H' := by
  obtain ⟨c, sd, os, hk, r, q⟩ := q
  refine ⟨c, sd, os, hk, r, h.mo _ _ _ (fun d k v H1 x1 dm => ?_) q⟩
  cases d with
  | none => cases dm; exact ⟨_, rfl, k H1 x1⟩
  | bool b => cases dm; exact ⟨_, rfl, k H1 x1⟩
  | int i => cases dm; exact ⟨_, rfl, k H1 x1⟩
  | str z => exact k.elim
  | dict z => exact k.elim
  | list ds =>
    obtain ⟨a, us, rfl, h1, h2⟩ := dm
    exact ⟨_, .inl ⟨us, .inl (.inl (hid_some h1).2), by rw [h2.emp]⟩, k H1 x1⟩
  | tuple ds =>
    obtain ⟨a, us, rfl, h1, h2⟩ := shTup dm
    exact ⟨_, .inr (.inl ⟨us, SqT.same hid_sub h1, by rw [h2.emp]⟩), k H1 x1⟩
theorem evt_tru {w : WD} (h : Ev .sh X e w) (he : ∀ whole, isTrue e X.env whole = (do let v ← whole; standAt e.pos; holding [v] (truthy v)) := by intro _; rfl) : EvT X e (wTru w) where
  pt := PT.weak (pt_truth h.pe he) fun σ H Q q => tru_run h q
  mo := fun sd Q Q' k q => h.mo _ _ _ (fun d z => by
    cases q : truD d with
    | none => rw [q] at z; exact z.elim
    | some b => rw [q] at z; exact k _ z) q
def wBo (w : WR) : WB := fun sd Q => w sd fun r => match r with
  | .va (.bool b) => Q b
  | _ => False
theorem evt_cmp {op : CmpOp} {rd : RD2} {wa wb : WD} (ho : OpD X (compareOp op) m1 m2 rd) (ha : Ev m1 X a wa) (hb : Ev m2 X b wb) (hm : behindInMarks op b = false := by first | exact nomark _ | rfl) :
    EvT X (.Compare a [op] [b] pos) (wBo (w2 rd wa wb)) where
  pt := by
    obtain ⟨r, h1, h2⟩ := ho.ex
    refine PT.weak (pt_cmpR h1 ha.pe hb.pe hm) fun σ H Q q => ?_
    refine w2_run h2 ho.mo ha hb ?_
    obtain ⟨c, sd, os, hk, rr, q⟩ := q
    refine ⟨c, sd, os, hk, rr, w2_mo ho.mo ha hb _ _ _ (fun z kz v H' x rv => ?_) q⟩
    cases z with
    | fr ds => exact kz.elim
    | fd _ => exact kz.elim
    | va d =>
      cases d with
      | bool b => cases rv; exact ⟨b, rfl, kz H' x⟩
      | _ => exact kz.elim
  mo := fun sd Q Q' k q => w2_mo ho.mo ha hb _ _ _ (fun z y => by
    cases z with
    | fr ds => exact y.elim
    | fd _ => exact y.elim
    | va d =>
      cases d with
      | bool b => exact k _ y
      | _ => exact y.elim) q
structure EvW (X : Cx) (e : Expr) (w : WB) : Prop where
  pw : PW X e (tTe X.K w)
  mo : ∀ sd (Q Q' : Bool → Prop), (∀ r, Q r → Q' r) → w sd Q → w sd Q'
theorem PW.weak {X : Cx} {e : Expr} {t t' : TT} (h : PW X e t) (k : ∀ σ H Q, t' σ H Q → t σ H Q) : PW X e t' :=
  ⟨fun wh pins s σ H Q I q => h.run wh pins s σ H Q I (k σ H Q q)⟩
theorem EvW.t {w : WB} (h : EvW X e w) : EvT X e w := ⟨h.pw.pt, h.mo⟩
theorem evw_and1 {w : WB} (h : EvT X a w) : EvW X (.BoolOp .And [a] pos) w := ⟨pw_and1 h.pt, h.mo⟩
theorem evw_or1 {w : WB} (h : EvT X a w) : EvW X (.BoolOp .Or [a] pos) w := ⟨pw_or1 h.pt, h.mo⟩
def wAnd (w u : WB) : WB := fun sd Q => w sd fun c => if c = true then u sd Q else Q false
def wOr (w u : WB) : WB := fun sd Q => w sd fun c => if c = true then Q true else u sd Q
def wNot (w : WB) : WB := fun sd Q => w sd fun c => Q (!c)
theorem evw_and {w u : WB} {rest : List Expr} (h : EvT X a w) (t : EvW X (.BoolOp .And (b :: rest) pos) u) : EvW X (.BoolOp .And (a :: b :: rest) pos) (wAnd w u) where
  pw := PW.weak (pw_and h.pt t.pw) fun σ H Q ⟨c, sd, os, hk, r, q⟩ => ⟨c, sd, os, hk, r, h.mo _ _ _ (fun d k H1 x1 => by
    cases d with
    | true => exact ⟨c, sd, os, hk, r.grow x1, t.mo _ _ _ (fun b k2 H2 x2 => k2 H2 (x1.trans x2)) k⟩
    | false => exact k H1 x1) q⟩
  mo := fun sd Q Q' k q => h.mo _ _ _ (fun d z => by
    cases d with
    | true => exact t.mo _ _ _ k z
    | false => exact k _ z) q
theorem evw_or {w u : WB} {rest : List Expr} (h : EvT X a w) (t : EvW X (.BoolOp .Or (b :: rest) pos) u) : EvW X (.BoolOp .Or (a :: b :: rest) pos) (wOr w u) where
  pw := PW.weak (pw_or h.pt t.pw) fun σ H Q ⟨c, sd, os, hk, r, q⟩ => ⟨c, sd, os, hk, r, h.mo _ _ _ (fun d k H1 x1 => by
    cases d with
    | false => exact ⟨c, sd, os, hk, r.grow x1, t.mo _ _ _ (fun b k2 H2 x2 => k2 H2 (x1.trans x2)) k⟩
    | true => exact k H1 x1) q⟩
  mo := fun sd Q Q' k q => h.mo _ _ _ (fun d z => by
    cases d with
    | false => exact t.mo _ _ _ k z
    | true => exact k _ z) q
theorem evt_not {w : WB} (h : EvT X a w) : EvT X (.UnaryOp .Not a pos) (wNot w) where
  pt := PT.weak (pt_not h.pt) fun σ H Q ⟨c, sd, os, hk, r, q⟩ => ⟨c, sd, os, hk, r, h.mo _ _ _ (fun d k H1 x1 => k H1 x1) q⟩
  mo := fun sd Q Q' k q => h.mo _ _ _ (fun d z => k _ z) q
/-! ### and, or as values of truths; a if t else b -/
theorem evr_one {op} {w : WR} (h : EvR X a w) : EvR X (.BoolOp op [a] pos) w := ⟨pe_one h.pe, h.mo⟩
def wAndV (w u : WR) : WR := fun sd Q => w sd fun r => match r with
  | .va (.bool c) => if c = true then u sd Q else Q (.va (.bool false))
  | _ => False
def wOrV (w u : WR) : WR := fun sd Q => w sd fun r => match r with
  | .va (.bool c) => if c = true then Q (.va (.bool true)) else u sd Q
  | _ => False
theorem evr_and {w u : WR} {rest : List Expr} (h : EvR X a w) (t : EvR X (.BoolOp .And (b :: rest) pos) u) : EvR X (.BoolOp .And (a :: b :: rest) pos) (wAndV w u) where
  pe := PE.weak (pe_and h.pe t.pe) fun σ H Q ⟨c, sd, os, hk, r, q⟩ => ⟨c, sd, os, hk, r, h.mo _ _ _ (fun z k v H1 x1 rv => by
    cases z with
    | fr ds => exact k.elim
    | fd _ => exact k.elim
    | va d =>
      cases d with
      | bool b =>
        cases rv
        refine ⟨b, rfl, ?_⟩
        cases b with
        | true => exact ⟨c, sd, os, hk, r.grow x1, t.mo _ _ _ (fun y k2 v H2 x2 rv => k2 v H2 (x1.trans x2) (RvR.from r.sO (fun a m => (r.grow x1).there m) x1 rv)) k⟩
        | false => exact k _ H1 x1 (.bl false)
      | _ => exact k.elim) q⟩
  mo := fun sd Q Q' k q => h.mo _ _ _ (fun z y => by
    cases z with
    | fr ds => exact y.elim
    | fd _ => exact y.elim
    | va d =>
      cases d with
      | bool b =>
        cases b with
        | true => exact t.mo _ _ _ k y
        | false => exact k _ y
      | _ => exact y.elim) q
theorem evr_or {w u : WR} {rest : List Expr} (h : EvR X a w) (t : EvR X (.BoolOp .Or (b :: rest) pos) u) : EvR X (.BoolOp .Or (a :: b :: rest) pos) (wOrV w u) where
  pe := PE.weak (pe_or h.pe t.pe) fun σ H Q ⟨c, sd, os, hk, r, q⟩ => ⟨c, sd, os, hk, r, h.mo _ _ _ (fun z k v H1 x1 rv => by
    cases z with
    | fr ds => exact k.elim
    | fd _ => exact k.elim
    | va d =>
      cases d with
      | bool b =>
        cases rv
        refine ⟨b, rfl, ?_⟩
        cases b with
        | false => exact ⟨c, sd, os, hk, r.grow x1, t.mo _ _ _ (fun y k2 v H2 x2 rv => k2 v H2 (x1.trans x2) (RvR.from r.sO (fun a m => (r.grow x1).there m) x1 rv)) k⟩
        | true => exact k _ H1 x1 (.bl true)
      | _ => exact k.elim) q⟩
  mo := fun sd Q Q' k q => h.mo _ _ _ (fun z y => by
    cases z with
    | fr ds => exact y.elim
    | fd _ => exact y.elim
    | va d =>
      cases d with
      | bool b =>
        cases b with
        | false => exact t.mo _ _ _ k y
        | true => exact k _ y
      | _ => exact y.elim) q
def wIf {α : Type} (t : WB) (u v : SD → (α → Prop) → Prop) : SD → (α → Prop) → Prop := fun sd Q => t sd fun c => if c = true then u sd Q else v sd Q
theorem evr_if {c : Expr} {t : WB} {u v : WR} (hc : EvT X c t) (ha : EvR X a u) (hb : EvR X b v) : EvR X (.IfExp c a b pos) (wIf t u v) where
  pe := PE.weak (pe_ifExp hc.pt ha.pe hb.pe) fun σ H Q ⟨c, sd, os, hk, r, q⟩ => ⟨c, sd, os, hk, r, hc.mo _ _ _ (fun d k H1 x1 => by
    cases d with
    | true => exact ⟨c, sd, os, hk, r.grow x1, ha.mo _ _ _ (fun y k2 v H2 x2 rv => k2 v H2 (x1.trans x2) (RvR.from r.sO (fun a m => (r.grow x1).there m) x1 rv)) k⟩
    | false => exact ⟨c, sd, os, hk, r.grow x1, hb.mo _ _ _ (fun y k2 v H2 x2 rv => k2 v H2 (x1.trans x2) (RvR.from r.sO (fun a m => (r.grow x1).there m) x1 rv)) k⟩) q⟩
  mo := fun sd Q Q' k q => hc.mo _ _ _ (fun d z => by
    cases d with
    | true => exact ha.mo _ _ _ k z
    | false => exact hb.mo _ _ _ k z) q
/-! ### is None -/
def isNon : PyData → Bool
  | .none => true
  | _ => false
theorem non_iff {K : PySem.W.Frag} {H : Hp} {v : V} {d : PyData} (h : Dx K H v d) : decide (v = .non) = isNon d := by
  cases h <;> rfl
def wIsN (w : WD) (neg : Bool) : WR := fun sd Q => w sd fun d => Q (.va (.bool (if neg then !isNon d else isNon d)))
theorem evr_isN {w : WD} {j pos'} (h : Ev .bo X a w) : EvR X (.Compare a [.Is] [.Constant .none j pos'] pos) (wIsN w false) where
  pe := PE.weak (pe_cmp (pc_isN h.pe)) fun σ H Q ⟨c, sd, os, hk, r, q⟩ => ⟨c, sd, os, hk, r, h.mo _ _ _ (fun d k v H1 x1 dm => by
    dsimp only; rw [non_iff dm]; exact k _ H1 x1 (.bl _)) q⟩
  mo := fun sd Q Q' k q => h.mo _ _ _ (fun d z => k _ z) q
theorem evr_notN {w : WD} {j pos'} (h : Ev .bo X a w) : EvR X (.Compare a [.IsNot] [.Constant .none j pos'] pos) (wIsN w true) where
  pe := PE.weak (pe_cmp (pc_notN h.pe)) fun σ H Q ⟨c, sd, os, hk, r, q⟩ => ⟨c, sd, os, hk, r, h.mo _ _ _ (fun d k v H1 x1 dm => by
    dsimp only; rw [non_iff dm]; exact k _ H1 x1 (.bl _)) q⟩
  mo := fun sd Q Q' k q => h.mo _ _ _ (fun d z => k _ z) q
theorem evt_isN {w : WD} {j pos'} (h : Ev .bo X a w) : EvT X (.Compare a [.Is] [.Constant .none j pos'] pos) (wBo (wIsN w false)) where
  pt := PT.weak (pt_cmp (pc_isN h.pe)) fun σ H Q ⟨c, sd, os, hk, r, q⟩ => ⟨c, sd, os, hk, r, h.mo _ _ _ (fun d k v H1 x1 dm => by
    dsimp only; rw [non_iff dm]; exact ⟨_, rfl, k H1 x1⟩) q⟩
  mo := fun sd Q Q' k q => h.mo _ _ _ (fun d z => k _ z) q
theorem evt_notN {w : WD} {j pos'} (h : Ev .bo X a w) : EvT X (.Compare a [.IsNot] [.Constant .none j pos'] pos) (wBo (wIsN w true)) where
  pt := PT.weak (pt_cmp (pc_notN h.pe)) fun σ H Q ⟨c, sd, os, hk, r, q⟩ => ⟨c, sd, os, hk, r, h.mo _ _ _ (fun d k v H1 x1 dm => by
    dsimp only; rw [non_iff dm]; exact ⟨_, rfl, k H1 x1⟩) q⟩
  mo := fun sd Q Q' k q => h.mo _ _ _ (fun d z => k _ z) q
end
end DL

set_option Elab.async false
set_option linter.all false
set_option maxRecDepth 100000
set_option maxHeartbeats 4000000
/-! statements over data -/
namespace DL
open PySem PySem.Spec PyProof.Rows L2
variable [Tb]
/-- what is wanted behind a statement -/
structure ED where
  nx : SD → Prop
  rt : RV → Prop
  bk : SD → Prop
  ct : SD → Prop
abbrev WS := ED → SD → Prop
/-- the wish in data is one over values -/
structure ER (c : Cd) (E : ED) (D : Ends) : Prop where
  nx : ∀ sd os σ H, R c sd os σ H → E.nx sd → D.nx σ H
  bk : ∀ sd os σ H, R c sd os σ H → E.bk sd → D.bk σ H
  ct : ∀ sd os σ H, R c sd os σ H → E.ct sd → D.ct σ H
  rt : ∀ z v H, Ext c.S c.H0 H → RvR c.K c.Oc c.H0 H v z → E.rt z → D.rt v H
def tSt (K : PySem.W.Frag) (w : WS) : TS := fun D σ H => ∃ (c : Cd) (sd : SD) (os : List (Option Addr)) (E : ED), c.K = K ∧ R c sd os σ H ∧ ER c E D ∧ w E sd
structure EvS (X : Cx) (st : Stmt) (w : WS) : Prop where
  ps : PS X st (tSt X.K w)
  mo : ∀ (E E' : ED) sd, (∀ sd, E.nx sd → E'.nx sd) → (∀ z, E.rt z → E'.rt z) → (∀ sd, E.bk sd → E'.bk sd) → (∀ sd, E.ct sd → E'.ct sd) → w E sd → w E' sd
structure EvB (X : Cx) (sts : List Stmt) (w : WS) : Prop where
  ps : PSs X sts (tSt X.K w)
  mo : ∀ (E E' : ED) sd, (∀ sd, E.nx sd → E'.nx sd) → (∀ z, E.rt z → E'.rt z) → (∀ sd, E.bk sd → E'.bk sd) → (∀ sd, E.ct sd → E'.ct sd) → w E sd → w E' sd
theorem PS.weak {X : Cx} {e : Stmt} {t t' : TS} (h : PS X e t) (k : ∀ D σ H, t' D σ H → t D σ H) : PS X e t' :=
  ⟨fun pins s σ H D I q => h.run pins s σ H D I (k D σ H q)⟩
theorem PSs.weak {X : Cx} {e : List Stmt} {t t' : TS} (h : PSs X e t) (k : ∀ D σ H, t' D σ H → t D σ H) : PSs X e t' :=
  ⟨fun pins s σ H D I q => h.run pins s σ H D I (k D σ H q)⟩
section
variable {X : Cx} {e a b : Expr} {es : List Expr} {m m1 m2 : Md} {pos p : Pos} {st : Stmt} {rest : List Stmt} {w u : WS}
theorem evb_nil : EvB X [] (fun E sd => E.nx sd) where
  ps := PSs.weak pss_nil fun D σ H ⟨c, sd, os, E, hk, r, er, q⟩ => er.nx _ _ _ _ r q
  mo := fun E E' sd h _ _ _ q => h _ q
theorem evb_cons (h : EvS X st w) (t : EvB X rest u) : EvB X (st :: rest) (fun E sd => w { E with nx := fun sd' => u E sd' } sd) where
  ps := PSs.weak (pss_cons h.ps t.ps) fun D σ H ⟨c, sd, os, E, hk, r, er, q⟩ =>
    ⟨c, sd, os, { E with nx := fun sd' => u E sd' }, hk, r, ⟨fun sd os σ H r q => ⟨c, sd, os, E, hk, r, er, q⟩, er.bk, er.ct, er.rt⟩, q⟩
  mo := fun E E' sd h1 h2 h3 h4 q => h.mo { E with nx := fun sd' => u E sd' } { E' with nx := fun sd' => u E' sd' } sd (fun sd z => t.mo E E' sd h1 h2 h3 h4 z) h2 h3 h4 q
theorem evb_one (h : EvS X st w) : EvB X [st] w := ⟨pss_one h.ps, h.mo⟩
theorem evs_pass : EvS X (.Pass pos) (fun E sd => E.nx sd) where
  ps := PS.weak ps_pass fun D σ H ⟨c, sd, os, E, hk, r, er, q⟩ => er.nx _ _ _ _ r q
  mo := fun E E' sd h _ _ _ q => h _ q
theorem evs_break : EvS X (.Break pos) (fun E sd => E.bk sd) where
  ps := PS.weak ps_break fun D σ H ⟨c, sd, os, E, hk, r, er, q⟩ => er.bk _ _ _ _ r q
  mo := fun E E' sd _ _ h _ q => h _ q
theorem evs_continue : EvS X (.Continue pos) (fun E sd => E.ct sd) where
  ps := PS.weak ps_continue fun D σ H ⟨c, sd, os, E, hk, r, er, q⟩ => er.ct _ _ _ _ r q
  mo := fun E E' sd _ _ _ h q => h _ q
/-- return e -/
theorem rv_ret {c : Cd} {sd : SD} {os : List (Option Addr)} {σ : L2.St} {H H' : Hp} {v : V} {z : RV} (r : R c sd os σ H) (x : Ext c.S H H') (h : RvR c.K (OO c os) H H' v z) : RvR c.K c.Oc c.H0 H' v z := by
  have hs : ∀ a ∈ c.Oc, a ∈ OO c os := fun a m => mem_OO.mpr (.inl m)
  cases z with
  | va d => exact Dx.same (hid_le hs) d v h
  | fr ds =>
    obtain ⟨p, xs, e1, e2, e3, e4⟩ := h
    refine ⟨p, xs, e1, ?_, e3, DxAll.same (hid_same (fun _ _ _ h => h) fun a m => .inl ?_) _ _ e4⟩
    · cases q : c.H0 p with
      | none => rfl
      | some o =>
        by_cases z : p ∈ c.S
        · exact absurd e2 (r.srcNow.there p z)
        · rw [r.ext.st p o z q] at e2; cases e2
    · rcases List.mem_cons.mp m with rfl | m
      · exact List.mem_cons_self
      · exact List.mem_cons_of_mem _ (hs a m)
  | fd es =>
    obtain ⟨p, xs, e1, e2, e3, e4⟩ := h
    refine ⟨p, xs, e1, ?_, e3, DE.same (hid_same (fun _ _ _ h => h) fun a m => .inl ?_) e4⟩
    · cases q : c.H0 p with
      | none => rfl
      | some o =>
        by_cases z : p ∈ c.S
        · exact absurd e2 (r.srcNow.there p z)
        · rw [r.ext.st p o z q] at e2; cases e2
    · rcases List.mem_cons.mp m with rfl | m
      · exact List.mem_cons_self
      · exact List.mem_cons_of_mem _ (hs a m)
theorem evs_ret {we : WR} (h : EvR X e we) : EvS X (.Return (some e) pos) (fun E sd => we sd E.rt) where
  ps := PS.weak (ps_ret h.pe) fun D σ H ⟨c, sd, os, E, hk, r, er, q⟩ => ⟨c, sd, os, hk, r, h.mo _ _ _ (fun z kz v H' x rv =>
    er.rt z v H' (r.ext.trans x) (rv_ret r x (by rw [hk]; exact rv)) kz) q⟩
  mo := fun E E' sd _ h2 _ _ q => h.mo _ _ _ h2 q
def wRetO (i : Nat) : WS := fun E sd => match getS sd i with
  | .ow ds => E.rt (.fr ds)
  | .od es => E.rt (.fd es)
  | .va d => E.rt (.va d)
  | _ => False
/-- return xs, xs a list of one's own: it is the caller's from now on -/
theorem evs_retO {x : Str} (i : Nat) (hN : X.N[i]? = some x := by rfl)
    (hv : Vis X.env.scope x := by first | exact Or.inl rfl | exact Or.inr (Or.inl rfl) | exact Or.inr (Or.inr rfl))
    (hd : (x == ("__debug__" : Str)) = false := by decide) (hcd : (x == ("__classdict__" : Str)) = false := by decide) :
    EvS X (.Return (some (.Name x p)) pos) (wRetO i) where
  ps := PS.weak (ps_ret (pe_var hN hv hd hcd)) fun D σ H ⟨c, sd, os, E, hk, r, er, q⟩ => by
    unfold wRetO at q
    cases e : getS sd i with
    | so => rw [e] at q; exact q.elim
    | fn _ => rw [e] at q; exact q.elim
    | un => rw [e] at q; exact q.elim
    | va d =>
      rw [e] at q
      obtain ⟨v, oa, h1, h2, h3, y, rfl, h4⟩ := r.at_ e (by intro z; cases z)
      exact ⟨y, h1, er.rt (.va d) y H r.ext (rv_ret r Ext.refl (z := .va d) h4) q⟩
    | ow ds =>
      rw [e] at q
      obtain ⟨v, oa, h1, h2, a, xs, rfl, rfl, h3, h4, h5⟩ := r.at_ e (by intro z; cases z)
      refine ⟨_, h1, er.rt (.fr ds) _ H r.ext ⟨a, xs, rfl, h5, h3, DxAll.same (hid_same (fun _ _ _ h => h) fun b m => .inl ?_) _ _ h4⟩ q⟩
      rcases List.mem_cons.mp m with rfl | m
      · exact mem_OO.mpr (.inr (List.mem_of_getElem? h2))
      · exact mem_OO.mpr (.inl m)
    | od es =>
      rw [e] at q
      obtain ⟨v, oa, h1, h2, a, xs, rfl, rfl, h3, h4, h5⟩ := r.at_ e (by intro z; cases z)
      refine ⟨_, h1, er.rt (.fd es) _ H r.ext ⟨a, xs, rfl, h5, h3, DE.same (hid_same (fun _ _ _ h => h) fun b m => .inl ?_) h4⟩ q⟩
      rcases List.mem_cons.mp m with rfl | m
      · exact mem_OO.mpr (.inr (List.mem_of_getElem? h2))
      · exact mem_OO.mpr (.inl m)
  mo := fun E E' sd _ h2 _ _ q => by
    unfold wRetO at q ⊢
    cases e : getS sd i with
    | so => rw [e] at q; exact q.elim
    | fn _ => rw [e] at q; exact q.elim
    | un => rw [e] at q; exact q.elim
    | va d => first | exact h2 _ q | (rw [e] at q; exact h2 _ q)
    | ow d => first | exact h2 _ q | (rw [e] at q; exact h2 _ q)
    | od d => first | exact h2 _ q | (rw [e] at q; exact h2 _ q)
theorem evs_retN : EvS X (.Return none pos) (fun E sd => E.rt (.va .none)) where
  ps := PS.weak ps_retN fun D σ H ⟨c, sd, os, E, hk, r, er, q⟩ => er.rt (.va .none) _ H r.ext (.non) q
  mo := fun E E' sd _ h2 _ _ q => h2 _ q
/-- if -/
theorem evs_if {c : Expr} {x y : List Stmt} {t : WB} (hc : EvT X c t) (ha : EvB X x w) (hb : EvB X y u) : EvS X (.If c x y pos) (fun E sd => t sd fun b => if b = true then w E sd else u E sd) where
  ps := PS.weak (ps_if hc.pt ha.ps hb.ps) fun D σ H ⟨c, sd, os, E, hk, r, er, q⟩ => ⟨c, sd, os, hk, r, hc.mo _ _ _ (fun d k H1 x1 => by
    cases d with
    | true => exact ⟨c, sd, os, E, hk, r.grow x1, er, k⟩
    | false => exact ⟨c, sd, os, E, hk, r.grow x1, er, k⟩) q⟩
  mo := fun E E' sd h1 h2 h3 h4 q => hc.mo _ _ _ (fun d z => by
    cases d with
    | true => exact ha.mo _ _ _ h1 h2 h3 h4 z
    | false => exact hb.mo _ _ _ h1 h2 h3 h4 z) q
/-! ### storing -/
theorem set_get {α : Type} {l : List α} {i j : Nat} {x y : α} (h : (l.set i x)[j]? = some y) : (j = i ∧ y = x) ∨ (j ≠ i ∧ l[j]? = some y) := by
  by_cases e : i = j
  · subst e
    left
    have l1 : i < (l.set i x).length := (List.getElem?_eq_some_iff.mp h).1
    rw [List.length_set] at l1
    rw [List.getElem?_set_self l1] at h
    cases h
    exact ⟨rfl, rfl⟩
  · rw [List.getElem?_set_ne e] at h
    exact .inr ⟨fun z => e z.symm, h⟩
theorem R.set {c : Cd} {sd : SD} {os : List (Option Addr)} {σ : L2.St} {H H' : Hp} {i : Nat} {v : V} {z : RV} (r : R c sd os σ H) (x : Ext c.S H H') (h : RvR c.K (OO c os) H H' v z) :
    ∃ oa, R c (sd.set i z.sv) (os.set i oa) (σ.set i (some v)) H' := by
  have rr := r.grow x
  cases z with
  | va d =>
    refine ⟨none, rr.ext, rr.src, rr.sin, rr.ocl, by simp [rr.lend], by simp [rr.leno], fun j s w oa h1 h2 h3 => ?_, fun j k a h1 h2 => ?_, fun p m => ?_, fun a m => ?_⟩
    · have sub : Same (hid (OO c os) H') (hid (OO c (os.set i none)) H') := hid_same (fun _ _ _ h => h) fun a m => by
        rcases mem_OO.mp m with q | q
        · exact .inl (mem_OO.mpr (.inl q))
        · obtain ⟨j, hj, e⟩ := List.getElem_of_mem q
          rcases set_get (show (os.set i none)[j]? = some (some a) by rw [List.getElem?_eq_getElem hj, e]) with ⟨_, z⟩ | ⟨_, z⟩
          · cases z
          · exact .inl (mem_OO.mpr (.inr (List.mem_of_getElem? z)))
      rcases set_get h1 with ⟨ej, e1⟩ | ⟨nj, e1⟩
      · subst ej e1
        rcases set_get h2 with ⟨_, e2⟩ | ⟨n, _⟩
        · rcases set_get h3 with ⟨_, e3⟩ | ⟨n, _⟩
          · subst e2 e3
            exact ⟨rfl, v, rfl, Dx.same sub _ _ h⟩
          · exact absurd rfl n
        · exact absurd rfl n
      · rcases set_get h2 with ⟨n, _⟩ | ⟨_, e2⟩
        · exact absurd n nj
        · rcases set_get h3 with ⟨n, _⟩ | ⟨_, e3⟩
          · exact absurd n nj
          · have q := rr.slot j s w oa e1 e2 e3
            cases s with
            | un => exact q
            | so => exact q
            | fn _ => exact q
            | va d => obtain ⟨q1, y, q2, q3⟩ := q; exact ⟨q1, y, q2, Dx.same sub _ _ q3⟩
            | ow ds => obtain ⟨a, xs, q1, q2, q3, q4, q5⟩ := q; exact ⟨a, xs, q1, q2, q3, DxAll.same sub _ _ q4, q5⟩
            | od ds => obtain ⟨a, xs, q1, q2, q3, q4, q5⟩ := q; exact ⟨a, xs, q1, q2, q3, DE.same sub q4, q5⟩
    · rcases set_get h1 with ⟨_, e⟩ | ⟨n1, e1⟩
      · cases e
      · rcases set_get h2 with ⟨_, e⟩ | ⟨n2, e2⟩
        · cases e
        · exact rr.uniq j k a e1 e2
    · exact Dx.same (hid_same (fun _ _ _ h => h) fun a m => by
        rcases mem_OO.mp m with q | q
        · exact .inl (mem_OO.mpr (.inl q))
        · obtain ⟨j, hj, e⟩ := List.getElem_of_mem q
          rcases set_get (show (os.set i none)[j]? = some (some a) by rw [List.getElem?_eq_getElem hj, e]) with ⟨_, z⟩ | ⟨_, z⟩
          · cases z
          · exact .inl (mem_OO.mpr (.inr (List.mem_of_getElem? z)))) _ _ (rr.tmp p m)
    · obtain ⟨j, hj, e⟩ := List.getElem_of_mem m
      rcases set_get (show (os.set i none)[j]? = some (some a) by rw [List.getElem?_eq_getElem hj, e]) with ⟨_, z⟩ | ⟨_, z⟩
      · cases z
      · exact rr.dis a (List.mem_of_getElem? z)
  | fr ds =>
    obtain ⟨p, ys, rfl, hp, hp', hd⟩ := h
    have np : some p ∉ os := fun m => r.there (mem_OO.mpr (.inr m)) hp
    have sub0 : Same (hid (OO c os) H) (hid (OO c (os.set i (some p))) H') := hid_same (fun a o n e => x.st a o (fun z => n (r.sO a z)) e) fun a m => by
      rcases mem_OO.mp m with q | q
      · exact .inl (mem_OO.mpr (.inl q))
      · obtain ⟨j, hj, e⟩ := List.getElem_of_mem q
        rcases set_get (show (os.set i (some p))[j]? = some (some a) by rw [List.getElem?_eq_getElem hj, e]) with ⟨_, z⟩ | ⟨_, z⟩
        · cases z; exact .inr hp
        · exact .inl (mem_OO.mpr (.inr (List.mem_of_getElem? z)))
    have sub1 : Same (hid (p :: OO c os) H') (hid (OO c (os.set i (some p))) H') := hid_same (fun _ _ _ h => h) fun a m => by
      rcases mem_OO.mp m with q | q
      · exact .inl (List.mem_cons_of_mem _ (mem_OO.mpr (.inl q)))
      · obtain ⟨j, hj, e⟩ := List.getElem_of_mem q
        rcases set_get (show (os.set i (some p))[j]? = some (some a) by rw [List.getElem?_eq_getElem hj, e]) with ⟨_, z⟩ | ⟨_, z⟩
        · cases z; exact .inl List.mem_cons_self
        · exact .inl (List.mem_cons_of_mem _ (mem_OO.mpr (.inr (List.mem_of_getElem? z))))
    have h0 : c.H0 p = none := by
      cases q : c.H0 p with
      | none => rfl
      | some o =>
        by_cases z : p ∈ c.S
        · exact absurd hp (r.srcNow.there p z)
        · rw [r.ext.st p o z q] at hp; cases hp
    refine ⟨some p, rr.ext, rr.src, rr.sin, rr.ocl, by simp [rr.lend], by simp [rr.leno], fun j s w oa h1 h2 h3 => ?_, fun j k a h1 h2 => ?_, fun q m => Dx.same sub0 _ _ (r.tmp q m), fun a m => ?_⟩
    · rcases set_get h1 with ⟨ej, e1⟩ | ⟨nj, e1⟩
      · subst ej e1
        rcases set_get h2 with ⟨_, e2⟩ | ⟨n, _⟩
        · rcases set_get h3 with ⟨_, e3⟩ | ⟨n, _⟩
          · subst e2 e3
            exact ⟨p, ys, rfl, rfl, hp', DxAll.same sub1 _ _ hd, h0⟩
          · exact absurd rfl n
        · exact absurd rfl n
      · rcases set_get h2 with ⟨n, _⟩ | ⟨_, e2⟩
        · exact absurd n nj
        · rcases set_get h3 with ⟨n, _⟩ | ⟨_, e3⟩
          · exact absurd n nj
          · have q := r.slot j s w oa e1 e2 e3
            cases s with
            | un => exact q
            | so => exact q
            | fn _ => exact q
            | va d => obtain ⟨q1, y, q2, q3⟩ := q; exact ⟨q1, y, q2, Dx.same sub0 _ _ q3⟩
            | ow ds =>
              obtain ⟨a, xs, q1, q2, q3, q4, q5⟩ := q
              subst q1
              exact ⟨a, xs, rfl, q2, x.st a _ (own_notS r (List.mem_of_getElem? e3)) q3, DxAll.same sub0 _ _ q4, q5⟩
            | od ds =>
              obtain ⟨a, xs, q1, q2, q3, q4, q5⟩ := q
              subst q1
              exact ⟨a, xs, rfl, q2, x.st a _ (own_notS r (List.mem_of_getElem? e3)) q3, DE.same sub0 q4, q5⟩
    · rcases set_get h1 with ⟨ej, e1⟩ | ⟨n1, e1⟩
      · cases e1
        rcases set_get h2 with ⟨ek, e2⟩ | ⟨n2, e2⟩
        · rw [ej, ek]
        · exact absurd (List.mem_of_getElem? e2) np
      · rcases set_get h2 with ⟨ek, e2⟩ | ⟨n2, e2⟩
        · cases e2
          exact absurd (List.mem_of_getElem? e1) np
        · exact rr.uniq j k a e1 e2
    · obtain ⟨j, hj, e⟩ := List.getElem_of_mem m
      rcases set_get (show (os.set i (some p))[j]? = some (some a) by rw [List.getElem?_eq_getElem hj, e]) with ⟨_, z⟩ | ⟨_, z⟩
      · cases z
        exact fun z => r.there (mem_OO.mpr (.inl z)) hp
      · exact rr.dis a (List.mem_of_getElem? z)
  | fd es =>
    obtain ⟨p, ys, rfl, hp, hp', hd⟩ := h
    have np : some p ∉ os := fun m => r.there (mem_OO.mpr (.inr m)) hp
    have sub0 : Same (hid (OO c os) H) (hid (OO c (os.set i (some p))) H') := hid_same (fun a o n e => x.st a o (fun z => n (r.sO a z)) e) fun a m => by
      rcases mem_OO.mp m with q | q
      · exact .inl (mem_OO.mpr (.inl q))
      · obtain ⟨j, hj, e⟩ := List.getElem_of_mem q
        rcases set_get (show (os.set i (some p))[j]? = some (some a) by rw [List.getElem?_eq_getElem hj, e]) with ⟨_, z⟩ | ⟨_, z⟩
        · cases z; exact .inr hp
        · exact .inl (mem_OO.mpr (.inr (List.mem_of_getElem? z)))
    have sub1 : Same (hid (p :: OO c os) H') (hid (OO c (os.set i (some p))) H') := hid_same (fun _ _ _ h => h) fun a m => by
      rcases mem_OO.mp m with q | q
      · exact .inl (List.mem_cons_of_mem _ (mem_OO.mpr (.inl q)))
      · obtain ⟨j, hj, e⟩ := List.getElem_of_mem q
        rcases set_get (show (os.set i (some p))[j]? = some (some a) by rw [List.getElem?_eq_getElem hj, e]) with ⟨_, z⟩ | ⟨_, z⟩
        · cases z; exact .inl List.mem_cons_self
        · exact .inl (List.mem_cons_of_mem _ (mem_OO.mpr (.inr (List.mem_of_getElem? z))))
    have h0 : c.H0 p = none := by
      cases q : c.H0 p with
      | none => rfl
      | some o =>
        by_cases z : p ∈ c.S
        · exact absurd hp (r.srcNow.there p z)
        · rw [r.ext.st p o z q] at hp; cases hp
    refine ⟨some p, rr.ext, rr.src, rr.sin, rr.ocl, by simp [rr.lend], by simp [rr.leno], fun j s w oa h1 h2 h3 => ?_, fun j k a h1 h2 => ?_, fun q m => Dx.same sub0 _ _ (r.tmp q m), fun a m => ?_⟩
    · rcases set_get h1 with ⟨ej, e1⟩ | ⟨nj, e1⟩
      · subst ej e1
        rcases set_get h2 with ⟨_, e2⟩ | ⟨n, _⟩
        · rcases set_get h3 with ⟨_, e3⟩ | ⟨n, _⟩
          · subst e2 e3
            exact ⟨p, ys, rfl, rfl, hp', DE.same sub1 hd, h0⟩
          · exact absurd rfl n
        · exact absurd rfl n
      · rcases set_get h2 with ⟨n, _⟩ | ⟨_, e2⟩
        · exact absurd n nj
        · rcases set_get h3 with ⟨n, _⟩ | ⟨_, e3⟩
          · exact absurd n nj
          · have q := r.slot j s w oa e1 e2 e3
            cases s with
            | un => exact q
            | so => exact q
            | fn _ => exact q
            | va d => obtain ⟨q1, y, q2, q3⟩ := q; exact ⟨q1, y, q2, Dx.same sub0 _ _ q3⟩
            | ow ds =>
              obtain ⟨a, xs, q1, q2, q3, q4, q5⟩ := q
              subst q1
              exact ⟨a, xs, rfl, q2, x.st a _ (own_notS r (List.mem_of_getElem? e3)) q3, DxAll.same sub0 _ _ q4, q5⟩
            | od ds =>
              obtain ⟨a, xs, q1, q2, q3, q4, q5⟩ := q
              subst q1
              exact ⟨a, xs, rfl, q2, x.st a _ (own_notS r (List.mem_of_getElem? e3)) q3, DE.same sub0 q4, q5⟩
    · rcases set_get h1 with ⟨ej, e1⟩ | ⟨n1, e1⟩
      · cases e1
        rcases set_get h2 with ⟨ek, e2⟩ | ⟨n2, e2⟩
        · rw [ej, ek]
        · exact absurd (List.mem_of_getElem? e2) np
      · rcases set_get h2 with ⟨ek, e2⟩ | ⟨n2, e2⟩
        · cases e2
          exact absurd (List.mem_of_getElem? e1) np
        · exact rr.uniq j k a e1 e2
    · obtain ⟨j, hj, e⟩ := List.getElem_of_mem m
      rcases set_get (show (os.set i (some p))[j]? = some (some a) by rw [List.getElem?_eq_getElem hj, e]) with ⟨_, z⟩ | ⟨_, z⟩
      · cases z
        exact fun z => r.there (mem_OO.mpr (.inl z)) hp
      · exact rr.dis a (List.mem_of_getElem? z)
/-- name = e -/
theorem evs_set {we : WR} {x : Str} {pos' : Pos} (i : Nat) (h : EvR X e we) (hN : X.N.Nodup) (hi : X.N[i]? = some x := by rfl) (hx : Loc X.env.scope x := by first | exact Or.inl rfl | exact Or.inr rfl)
    (hs : swapsWith e (some (.Name x pos')) pos.line X.env = pure false := by rfl) (hf : X.fn x = true ∨ X.env.scope.names.lookup x = some .local := by first | exact .inl rfl | exact .inr rfl) :
    EvS X (.Assign [.Name x pos'] e pos) (fun E sd => we sd fun z => E.nx (sd.set i z.sv)) where
  ps := PS.weak (ps_set hN hi hx h.pe hs hf) fun D σ H ⟨c, sd, os, E, hk, r, er, q⟩ => ⟨c, sd, os, hk, r, h.mo _ _ _ (fun z kz v H' x rv => by
    obtain ⟨os', r'⟩ := R.set (i := i) r x (by rw [hk]; exact rv)
    exact er.nx _ _ _ _ r' kz) q⟩
  mo := fun E E' sd h1 _ _ _ q => h.mo _ _ _ (fun z y => h1 _ y) q
/-- an expression whose value is dropped -/
theorem evs_drop {we : WR} (h : EvR X e we) (hs : swapsWith e none pos.line X.env = pure false := by rfl) : EvS X (.Expr e pos) (fun E sd => we sd fun _ => E.nx sd) where
  ps := PS.weak (ps_expr h.pe hs) fun D σ H ⟨c, sd, os, E, hk, r, er, q⟩ => ⟨c, sd, os, hk, r, h.mo _ _ _ (fun z kz v H' x rv => er.nx _ _ _ _ (r.grow x) kz) q⟩
  mo := fun E E' sd h1 _ _ _ q => h.mo _ _ _ (fun z y => h1 _ y) q
end
end DL

set_option Elab.async false
set_option linter.all false
set_option maxRecDepth 100000
set_option maxHeartbeats 4000000
/-! two rules that were lacking: t[::-1] of a tuple, xs.extend(t) -/
namespace DL
open PySem PySem.Spec PyProof.Rows L2
variable [Tb]
section
variable {prog : Program} {w : World} {A : Around} {E : Value → Shared → Prop} {s : Shared}
theorem adj_back (n : Nat) : Builtin.Slice.sliceAdjust none none (-1) (n : Int) = ((n : Int) - 1, -1) := by
  unfold Builtin.Slice.sliceAdjust
  first
    | rfl
    | simp
theorem plc_back (n : Nat) : Builtin.Slice.slicePlaces ((n : Int) - 1) (-1) (-1) = n := by
  unfold Builtin.Slice.slicePlaces
  have h1 : ¬ ((-1 : Int) > 0) := by decide
  simp only [h1, if_false]
  first
    | omega
    | (split <;> omega)
    | (simp; omega)
theorem applied_back {sl : Addr} {u : Tok} {n : Nat} {Q : Int × Int × Nat → Shared → Prop} (hs : s.heap.IsSliceOf sl .none .none (.int (-1) u)) (h : Q ((n : Int) - 1, -1, n) s) :
    wpAny (model prog w) A (Builtin.Slice.sliceApplied (.ref sl) (pure (n : Int))) Q E s := by
  obtain ⟨os, hos, hcs, hds⟩ := id hs
  unfold Builtin.Slice.sliceApplied Builtin.Slice.sliceFields
  refine wpAny_bind (wpAny_bind (wpAny_field hos hds (x := .none) rfl (wpAny_bind (wpAny_field hos hds (x := .none) rfl
    (wpAny_bind (wpAny_field hos hds (x := .int (-1) u) rfl (wpAny_pure ?_)))))))
  refine wpAny_bind (slicePart_int ?_)
  show wpAny _ _ (if ((-1 : Int) == 0) = true then _ else _) _ _ s
  rw [if_neg (by decide)]
  refine wpAny_bind (slicePart_none (wpAny_bind (slicePart_none (wpAny_bind (wpAny_pure ?_)))))
  show wpAny _ _ (match Builtin.Slice.sliceAdjust none none (-1) (n : Int) with
    | (lo, hi) => pure (lo, (-1 : Int), Builtin.Slice.slicePlaces lo hi (-1))) _ _ s
  rw [adj_back n]
  show wpAny _ _ (pure (((n : Int) - 1), (-1 : Int), Builtin.Slice.slicePlaces ((n : Int) - 1) (-1) (-1))) _ _ s
  rw [plc_back]
  exact wpAny_pure h
theorem pick_back (xs : Array Value) : ((List.range xs.size).filterMap fun (m : Nat) => xs[(((xs.size : Int) - 1) + (m : Int) * (-1)).toNat]?).toArray = xs.toList.reverse.toArray := by
  have e1 : (List.range xs.size).filterMap (fun (m : Nat) => xs[(((xs.size : Int) - 1) + (m : Int) * (-1)).toNat]?) = ((List.range xs.size).map (fun m => xs.size - 1 - m)).filterMap (xs[·]?) := by
    rw [List.filterMap_map]
    congr 1
    funext m
    show xs[(((xs.size : Int) - 1) + (m : Int) * (-1)).toNat]? = xs[xs.size - 1 - m]?
    congr 1
    omega
  rw [e1, PySem.W.krv_range, List.filterMap_reverse, PySem.W.krv_all]
theorem tup_back {t sl : Addr} {items : Array Value} {u : Tok} {Q : Value → Shared → Prop} (ht : IsTup s.heap t items) (hs : s.heap.IsSliceOf sl .none .none (.int (-1) u))
    (h : Q (.ref s.heap.objs.size) { s with heap := s.heap.push { cls := .type "tuple", data := .seq items.toList.reverse.toArray } })
    (hsz : items.size ≤ sizeLine) : wpAny (model prog w) A (getItem (.ref t) (.ref sl)) Q E s := by
  have hok : sizeOk (.seq items.toList.reverse.toArray) := by
    show items.toList.reverse.toArray.size ≤ sizeLine
    rw [List.size_toArray, List.length_reverse, Array.length_toList]
    exact hsz
  obtain ⟨os, hos, hcs, hds⟩ := id hs
  have hTs : s.TypeIs (.ref sl) "slice" := ⟨os, hos, hcs⟩
  unfold getItem
  try with_reducible refine wpAny_holding ?_
  first
    | refine wpAny_bind (wpAny_pure ?_)
    | skip
  refine wpAny_bind (wpAny_sequenceKey ht.typeIs (by decide) ?_)
  refine wpAny_bind (wpAny_callSpecial?_slot (name := Str.ofString "__getitem__") ht.typeIs slot_tuple_getitem
    (wpAny_call_entry slot_tuple_getitem ht.typeIs entry_tuple_getitem ?_
      (args_tuple_getitem _ _)))
  show wpAny _ _ (Builtin.Tuple.tupleItemsOf (.ref t) >>= _) _ _ s
  refine wpAny_bind (tupleItemsOf_ ht ?_)
  refine wpAny_bind (wpAny_typeOf hTs ?_)
  rw [if_pos (by decide)]
  refine wpAny_bind (applied_back hs ?_)
  have hno : ¬ ((((items.size : Int) - 1) == 0 && (-1 : Int) == 1 && items.size == items.size) = true) := by
    rw [show ((-1 : Int) == 1) = false from rfl, Bool.and_false, Bool.false_and]
    exact Bool.false_ne_true
  show wpAny _ _ (if (((items.size : Int) - 1) == 0 && (-1 : Int) == 1 && items.size == items.size) = true then _ else _) _ _ s
  rw [if_neg hno, pick_back]
  first
    | exact wpAny_bind (m := Builtin.Tuple.tupleExact _) (wpAny_newObj_type (wpAny_pure ⟨_, rfl, wpAny_pure h⟩) hok)
    | exact wpAny_bind (m := Builtin.Tuple.tupleExact _) (wpAny_newObj_type (wpAny_bind (wpAny_pure (wpAny_pure
        ⟨_, rfl, wpAny_pure h⟩))) hok)
    | exact wpAny_bind (wpAny_bind (m := Builtin.Tuple.tupleExact _) (wpAny_newObj_type (wpAny_pure
        (wpAny_pure ⟨_, rfl, wpAny_pure h⟩)) hok))
    | exact wpAny_bind (wpAny_bind (m := Builtin.Tuple.tupleExact _) (wpAny_newObj_type (wpAny_pure
        ⟨_, rfl, wpAny_pure h⟩) hok))
theorem ext_tup (l : Addr) (items : Array Value) (n : Nat) (b : Addr) (items2 : Array Value) (n2 : Nat) (dd : Option Addr) (sl : Array (Option Value))
    (hs0 : ¬ (!items.isEmpty && Builtin.List.listTooLong (items.size + items2.size)) = true) (hs1 : items.size ≤ sizeLine) (hs2 : items.size + items2.size ≤ sizeLine + 1) :
    Meets (Builtin.«list.extend» ⟨[.ref l, .ref b], []⟩) (fun _ R s =>
      s.heap.get? l = some { cls := .type "list", data := .seq items n } ∧ s.heap.get? b = some { cls := .type "tuple", dict := dd, data := .seq items2 n2, slots := sl } ∧
      R (.ok (.ret Value.none)) { s with heap := s.heap.update l (Obj.mapSeq fun x => x ++ items2), toks := s.toks }) :=
  .of_wp fun prog w A R s h => by
    obtain ⟨hp, g, d, tk, os⟩ := s
    obtain ⟨hl, hb, h⟩ := h
    have f1 := PySem.AutoSeq1.idx_int
    have f2 := PySem.AutoSeq1.sub_tuple_tuple
    have f3 := PySem.AutoSeq1.sub_list_list
    have f4 := PySem.AutoSeq1.sub_tuple_list
    have f5 := PySem.AutoSeq1.sub_list_tuple
    have hz' : (items ++ items2).size ≤ sizeLine + 1 := by
      rw [Array.size_append]
      exact hs2
    wp_walk using (wpAny_updateSeq hl rfl (hz := hs1)
      (_hz' := hz')), PySem.AutoSeq1.wpAny_loadPart' hl, PySem.AutoSeq1.wpAny_loadPart' hb
    exact ⟨_, rfl, h⟩
end
section
variable {X : Cx} {e : Expr} {te : TE} {k : Nat} {p1 p2 p3 pos : Pos}
/-- e[::-1] of a tuple or a list -/
def tBack (K : PySem.W.Frag) (te : TE) : TE := fun σ H Q => te σ H fun x H1 => (∃ a xs, x = .ref a ∧ SqT K H1 a xs ∧ ∀ p, H1 p = none → Q (.ref p) (upd H1 p (.tup xs.reverse))) ∨
  ∃ a xs, x = .ref a ∧ SqL K H1 a xs ∧ ∀ p, H1 p = none → Q (.ref p) (upd H1 p (.lst xs.reverse))
theorem pe_back (he : PE X e te) : PE X (.Subscript e (.Slice none none (some (.UnaryOp .USub (.Constant (.int 1) k p1) p2)) p3) pos) (tBack X.K te) := by
  constructor
  intro pins s σ H Q I h
  apply Subscript_
  apply thn (he.run pins s σ H _ I h)
  rintro v s1 ⟨x, H1, I1, r1, q1⟩
  have hst : PO X (some (.UnaryOp .USub (.Constant (.int 1) k p1) p2)) (tPart (tUn (rU fun i => .int (-i)) (tC (.int 1)))) := po_some (pe_un un_neg pe_int)
  apply wpAny_Slice
  apply thn (po_none.run pins s1 σ H1 (fun o H2 => o = none ∧ H2 = H1) I1 ⟨rfl, rfl⟩)
  rintro vl s2 ⟨l, H2, I2, pl, el, e2⟩
  subst el e2
  apply thn (po_none.run pins s2 σ H2 (fun o H3 => o = none ∧ H3 = H2) I2 ⟨rfl, rfl⟩)
  rintro vu s3 ⟨u, H3, I3, pu, eu, e3⟩
  subst eu e3
  apply thn (hst.run pins s3 σ H3 (fun o H4 => o = some (-1) ∧ H4 = H3) I3 ⟨1, rfl, -1, rfl, rfl, rfl⟩)
  rintro vs s4 ⟨o, H4, I4, ps, eo, e4⟩
  subst eo e4
  have I5 : Inv X pins σ H4 { s4 with heap := s4.heap.push { cls := .type "slice", data := .fields #[vl, vu, vs] } } :=
    I4.kept (t' := s4.toks) fun b ob q => Heap.get?_push_of_some _ q
  rcases q1 with ⟨a, xs, rfl, hx, q⟩ | ⟨a, xs, rfl, hx, q⟩
  · cases r1
    cases pl
    cases pu
    cases ps
    obtain ⟨its, r, ht, hz⟩ := I5.tuple hx
    have hlen := r.length
    refine tail_any (value := e) (ops := [.ref a, .ref s4.heap.objs.size]) ht.typeIs slot_tuple_getitem.lookup ?_ (by with_unfolding_all rfl)
    refine tup_back ht (Heap.IsSliceOf.new _ _ _ _) ?_ (by rw [List.size_toArray]; omega)
    refine ⟨.ref _, _, I5.laid (t' := s4.toks) (o := .tup xs.reverse) (fun b ob q => Heap.get?_push_of_some _ q) (Nat.le_refl _) ?_, rfl, q _ (I5.hok.fresh (Nat.le_refl _))⟩
    exact ⟨by rw [List.length_reverse]; exact hz, _, r.reverse, IsTup.new _ _⟩
  · cases r1
    obtain ⟨its, r, ht, hz⟩ := I5.list hx
    have hlen := r.length
    refine tail_any (value := e) (ops := [.ref a, .ref s4.heap.objs.size]) ht.isList.typeIs (PySem.slot_list_getitem.lookup) ?_ (by with_unfolding_all rfl)
    refine wpAny_getItem_list_slice ht.isList (Heap.IsSliceOf.new _ vl vu vs) pl pu ps (by decide) ?_ (by rw [List.size_toArray]; omega)
    rw [PySem.W.krv_pick]
    refine ⟨.ref _, _, I5.laid (t' := s4.toks) (o := .lst xs.reverse) (fun b ob q => Heap.get?_push_of_some _ q) (Nat.le_refl _) ?_, rfl, q _ (I5.hok.fresh (Nat.le_refl _))⟩
    exact ⟨by rw [List.length_reverse]; exact hz, _, 0, r.reverse, Heap.get?_push_size _ rfl⟩
def rExtT (K : PySem.W.Frag) : V → List V → Hp → VK → Prop := fun x vs H Q => ∃ l b xs zs, x = .ref l ∧ vs = [.ref b] ∧ H l = some (.lst xs) ∧ SqT K H b zs ∧ xs.length + zs.length ≤ sizeLine ∧ Q .non (upd H l (.lst (xs ++ zs)))
theorem mt_extT : MtM X "list.extend" (rExtT X.K) := by
  intro pins s σ H x vs v us Q I rx rv h
  obtain ⟨l, b, xs, zs, rfl, rfl, hH, hB, hz, q⟩ := h
  cases rx
  obtain ⟨u, rfl, ru⟩ := rv.one
  cases ru
  obtain ⟨z, its, n, r, hl, e⟩ := I.lstM hH
  obtain ⟨its2, r2, ⟨⟨cls2, dd2, data2, sl2⟩, ho2, hc2, n2, hd2⟩, hz2⟩ := I.tuple hB
  simp only at hc2 hd2
  subst hc2 hd2
  have hl2 := r2.length
  have hsz : its.toArray.size + its2.toArray.size ≤ sizeLine := by rw [List.size_toArray, List.size_toArray]; omega
  refine call_meets F.slot_list_extend ⟨_, e, rfl⟩ F.entry_list_extend (F.args_list_extend_2 _ _)
    (ext_tup l its.toArray n b its2.toArray n2 dd2 sl2 ?_ (by rw [List.size_toArray]; omega) (by omega)) ⟨e, ho2, ?_⟩
  · rw [notLongL hsz, Bool.and_false]
    exact Bool.false_ne_true
  · refine ⟨.non, _, I.lset (its' := its ++ its2) hH e (by simp) (r.append r2) ?_, rfl, q⟩
    rw [List.length_append]
    omega
end
end DL

set_option Elab.async false
set_option linter.all false
set_option maxRecDepth 100000
set_option maxHeartbeats 4000000
/-! lists of one's own that change; loops; comprehensions -/
namespace DL
open PySem PySem.Spec PyProof.Rows L2
variable [Tb]
section
variable {c : Cd} {sd : SD} {os : List (Option Addr)} {σ : L2.St} {H H' : Hp}
theorem hid_upd {O : List Addr} {a : Addr} {o : HO} (h : a ∈ O) : hid O (upd H a o) = hid O H := by
  funext b
  by_cases m : b ∈ O
  · rw [hid_in m, hid_in m]
  · rw [hid_out m, hid_out m, upd_ne (fun e => m (by rw [e]; exact h))]
theorem ext_upd {S : List Addr} {H0 : Hp} {a : Addr} {o : HO} (x : Ext S H0 H) (hn : H0 a = none) (hs : a ∉ S) : Ext S H0 (upd H a o) := by
  refine ⟨fun b u n e => ?_, fun k => ?_⟩
  · rw [upd_ne (ne_of_none e hn)]; exact x.st b u n e
  · have ts : ∀ P ∈ (Tb.Ts : List Addr), P ∈ S := fun P m => by
      rcases (x.so k).1 with e | ⟨p, q, e, _⟩
      · rw [e]; exact m
      · rw [e]; exact List.mem_cons_of_mem _ (List.mem_cons_of_mem _ m)
    refine ⟨?_, fun P m => ?_⟩
    · rcases (x.so k).1 with e | ⟨p, q, e, cs, l, m, t, h1, h2, h3⟩
      · exact .inl e
      · refine .inr ⟨p, q, e, cs, l, m, t, ?_, ?_, h3⟩
        · rw [upd_ne (fun z => hs (by rw [e, ← z]; exact List.mem_cons_self))]; exact h1
        · rw [upd_ne (fun z => hs (by rw [e, ← z]; exact List.mem_cons_of_mem _ List.mem_cons_self))]; exact h2
    · obtain ⟨ps, e, r⟩ := (x.so k).2 P m
      exact ⟨ps, by rw [upd_ne (fun z => hs (by rw [← z]; exact ts P m))]; exact e, r⟩
/-- a hidden list changes -/
theorem R.updO (r : R c sd os σ H) {a : Addr} {o : HO} (ha : a ∈ c.Oc) (hs : a ∉ c.S) (h0 : c.H0 a = none) (ho : IsOwn o) : R c sd os σ (upd H a o) := by
  have hO : a ∈ OO c os := mem_OO.mpr (.inl ha)
  refine ⟨ext_upd r.ext h0 hs, r.src, r.sin, fun b m => ?_, r.lend, r.leno, fun i s v oa h1 h2 h3 => ?_, r.uniq, fun p m => by rw [hid_upd hO]; exact r.tmp p m, r.dis⟩
  · by_cases e : b = a
    · rw [e]; exact .inr ⟨_, upd_same, ho⟩
    · rw [upd_ne e]; exact r.ocl b m
  · have q := r.slot i s v oa h1 h2 h3
    cases s with
    | un => exact q
    | so => exact q
    | fn _ => exact q
    | va d => obtain ⟨q1, y, q2, q3⟩ := q; exact ⟨q1, y, q2, by rw [hid_upd hO]; exact q3⟩
    | ow ds =>
      obtain ⟨b, ys, q1, q2, q3, q4, q5⟩ := q
      subst q1
      by_cases e : b = a
      · -- the caller's lists are not one's own
        exact absurd (by rw [e]; exact ha) (r.dis b (List.mem_of_getElem? h3))
      · exact ⟨b, ys, rfl, q2, by rw [upd_ne e]; exact q3, by rw [hid_upd hO]; exact q4, q5⟩
    | od ds =>
      obtain ⟨b, ys, q1, q2, q3, q4, q5⟩ := q
      subst q1
      by_cases e : b = a
      · exact absurd (by rw [e]; exact ha) (r.dis b (List.mem_of_getElem? h3))
      · exact ⟨b, ys, rfl, q2, by rw [upd_ne e]; exact q3, by rw [hid_upd hO]; exact q4, q5⟩
/-- a list of one's own changes -/
theorem R.updG (r : R c sd os σ H) {i : Nat} {a : Addr} {o : HO} {z : SV} (hi : os[i]? = some (some a)) (ho : IsOwn o) (h : c.H0 a = none → SlotR c (OO c os) (upd H a o) z (some (.ref a)) (some a)) :
    R c (sd.set i z) os σ (upd H a o) := by
  have hm : some a ∈ os := List.mem_of_getElem? hi
  have hO : a ∈ OO c os := mem_OO.mpr (.inr hm)
  obtain ⟨i', s0, o0, g1, g1', g2, g3, g4, g5, g6⟩ := r.ownAt hm
  have ei : i' = i := r.uniq _ _ _ g3 hi
  subst ei
  have hs := own_notS r hm
  refine ⟨ext_upd r.ext g6 hs, r.src, r.sin, fun b m => ?_, by simp [r.lend], r.leno, fun j s v oa h1 h2 h3 => ?_, r.uniq, fun p m => by rw [hid_upd hO]; exact r.tmp p m, r.dis⟩
  · by_cases e : b = a
    · rw [e]; exact .inr ⟨_, upd_same, ho⟩
    · rw [upd_ne e]; exact r.ocl b m
  · rcases set_get h1 with ⟨ej, e1⟩ | ⟨nj, e1⟩
    · subst ej e1
      rw [g3] at h3; cases h3
      rw [g2] at h2; cases h2
      exact h g6
    · have q := r.slot j s v oa e1 h2 h3
      cases s with
      | un => exact q
      | so => exact q
      | fn _ => exact q
      | va d => obtain ⟨q1, y, q2, q3⟩ := q; exact ⟨q1, y, q2, by rw [hid_upd hO]; exact q3⟩
      | ow ds =>
        obtain ⟨b, ys, q1, q2, q3, q4, q5⟩ := q
        subst q1
        refine ⟨b, ys, rfl, q2, ?_, by rw [hid_upd hO]; exact q4, q5⟩
        rw [upd_ne (fun e => nj (r.uniq _ _ a (by rw [← e]; exact h3) g3))]
        exact q3
      | od ds =>
        obtain ⟨b, ys, q1, q2, q3, q4, q5⟩ := q
        subst q1
        refine ⟨b, ys, rfl, q2, ?_, by rw [hid_upd hO]; exact q4, q5⟩
        rw [upd_ne (fun e => nj (r.uniq _ _ a (by rw [← e]; exact h3) g3))]
        exact q3
theorem R.upd (r : R c sd os σ H) {i : Nat} {a : Addr} {xs : List V} {ds : List PyData} (hi : os[i]? = some (some a)) (h : DxAll c.K (hid (OO c os) H) xs ds) :
    R c (sd.set i (.ow ds)) os σ (upd H a (.lst xs)) :=
  r.updG hi own_lst fun g6 => ⟨a, xs, rfl, rfl, upd_same, by rw [hid_upd (mem_OO.mpr (.inr (List.mem_of_getElem? hi)))]; exact h, g6⟩
/-- a dict of one's own changes -/
theorem R.updD (r : R c sd os σ H) {i : Nat} {a : Addr} {o : HO} {es : List (PyData × PyData)} (hi : os[i]? = some (some a)) (h : DE c.K (hid (OO c os) H) o es) :
    R c (sd.set i (.od es)) os σ (L2.upd H a o) :=
  r.updG hi h.own fun g6 => ⟨a, o, rfl, rfl, upd_same, by rw [hid_upd (mem_OO.mpr (.inr (List.mem_of_getElem? hi)))]; exact h, g6⟩
end
end DL

set_option Elab.async false
set_option linter.all false
set_option maxRecDepth 100000
set_option maxHeartbeats 4000000
namespace DL
open PySem PySem.Spec PyProof.Rows L2
variable [Tb]
section
variable {X : Cx} {e : Expr} {es : List Expr} {pos p apos cpos : Pos} {x : Str}
/-! ### append, extend, pop at a name that holds a list of one's own -/
def onOw (i : Nat) (sd : SD) (k : List PyData → Prop) : Prop := match getS sd i with
  | .ow ds => k ds
  | _ => False
theorem onOw_get {i : Nat} {sd : SD} {k : List PyData → Prop} (q : onOw i sd k) : ∃ ds, getS sd i = .ow ds ∧ k ds := by
  unfold onOw at q
  cases es : getS sd i with
  | ow ds => rw [es] at q; exact ⟨ds, rfl, q⟩
  | un => rw [es] at q; exact q.elim
  | va d => rw [es] at q; exact q.elim
  | so => rw [es] at q; exact q.elim
  | fn _ => rw [es] at q; exact q.elim
  | od _ => rw [es] at q; exact q.elim
theorem onOw_put {i : Nat} {sd : SD} {k : List PyData → Prop} {ds : List PyData} (e : getS sd i = .ow ds) (q : k ds) : onOw i sd k := by
  unfold onOw
  rw [e]
  exact q
def wAppend (i : Nat) (we : WR) : WS := fun E sd => onOw i sd fun ds => we sd fun z => ds.length < sizeLine ∧ E.nx (sd.set i (.ow (ds ++ [z.dat])))
theorem evs_append {we : WR} (i : Nat) (h : EvR X e we) (hN : X.N[i]? = some x := by rfl)
    (hv : Vis X.env.scope x := by first | exact Or.inl rfl | exact Or.inr (Or.inl rfl) | exact Or.inr (Or.inr rfl))
    (hd : (x == ("__debug__" : Str)) = false := by decide) (hcd : (x == ("__classdict__" : Str)) = false := by decide)
    (hbase : attributeBase (.Name x p) "append" X.env (eval (.Name x p) X.env) = eval (.Name x p) X.env := by rfl)
    (hfew : ((backTo cpos (starEach [e] X.env)).all (fun x => !x.1) && (backToKw cpos (keywordEach [] X.env)).all (fun x => x.1.isSome)
      && decide ([e].length + ([] : List Keyword).length + (if ([] : List Keyword).isEmpty then 0 else 1) < 30)) = true := by rfl)
    (hline : (apos.endLine == cpos.line) = true := by rfl) (hs : starEach [e] X.env = (false, eval e X.env) :: starEach [] X.env := by rfl)
    (hplain : (backTo cpos (starEach [] X.env)).any (·.1) = false := by rfl) (hsw : swapsWith (.Call (.Attribute (.Name x p) "append" apos) [e] [] cpos) none pos.line X.env = pure false := by rfl) :
    EvS X (.Expr (.Call (.Attribute (.Name x p) "append" apos) [e] [] cpos) pos) (wAppend i we) where
  ps := PS.weak (ps_expr (pe_bm F.plainAttrs_list F.slot_list_append F.type_list_append mt_append (pe_var hN hv hd hcd) (pa_cons h.pe pa_nil hs) hbase hfew hline hs hplain) hsw)
    fun D σ H ⟨c, sd, os, E, hk, r, er, q⟩ => by
    obtain ⟨ds, es, q⟩ := onOw_get q
    obtain ⟨v, oa, h1, h2, a, xs, rfl, rfl, h3, h4, h5⟩ := r.at_ es (by intro z; cases z)
    have na := own_notS r (List.mem_of_getElem? h2)
    refine ⟨_, h1, .inl ⟨rfl, _, .inl (.inl h3)⟩, c, sd, os, hk, r, h.mo _ _ _ (fun z kz y H1 x1 rv => ?_) q⟩
    have g3 := x1.st a _ na h3
    have g4 := DxAll.grow r.sO x1 h4
    refine ⟨a, xs, y, rfl, rfl, g3, by rw [h4.len]; exact kz.1, ?_⟩
    refine er.nx _ _ _ _ (R.upd (r.grow x1) h2 (g4.app (.cons ?_ .nil))) kz.2
    rw [hk]
    exact RvR.cl rv fun b m => r.there m
  mo := fun E E' sd h1 _ _ _ q => by
    obtain ⟨ds, es, q⟩ := onOw_get q
    exact onOw_put es (h.mo _ _ _ (fun z y => ⟨y.1, h1 _ y.2⟩) q)
def dItems (d : PyData) (k : List PyData → Prop) : Prop := match d with
  | .list ds => k ds
  | .tuple ds => k ds
  | _ => False
theorem dItems_mo {d : PyData} {k k' : List PyData → Prop} (h : ∀ ds, k ds → k' ds) (q : dItems d k) : dItems d k' := by
  cases d with
  | list ds => exact h _ q
  | tuple ds => exact h _ q
  | _ => exact q.elim
def wExtend (i : Nat) (we : WD) : WS := fun E sd => onOw i sd fun ds => we sd fun d => dItems d fun zs => ds.length + zs.length ≤ sizeLine ∧ E.nx (sd.set i (.ow (ds ++ zs)))
theorem evs_extend {we : WD} (i : Nat) (h : Ev .sh X e we) (hN : X.N[i]? = some x := by rfl)
    (hv : Vis X.env.scope x := by first | exact Or.inl rfl | exact Or.inr (Or.inl rfl) | exact Or.inr (Or.inr rfl))
    (hd : (x == ("__debug__" : Str)) = false := by decide) (hcd : (x == ("__classdict__" : Str)) = false := by decide)
    (hbase : attributeBase (.Name x p) "extend" X.env (eval (.Name x p) X.env) = eval (.Name x p) X.env := by rfl)
    (hfew : ((backTo cpos (starEach [e] X.env)).all (fun x => !x.1) && (backToKw cpos (keywordEach [] X.env)).all (fun x => x.1.isSome)
      && decide ([e].length + ([] : List Keyword).length + (if ([] : List Keyword).isEmpty then 0 else 1) < 30)) = true := by rfl)
    (hline : (apos.endLine == cpos.line) = true := by rfl) (hs : starEach [e] X.env = (false, eval e X.env) :: starEach [] X.env := by rfl)
    (hplain : (backTo cpos (starEach [] X.env)).any (·.1) = false := by rfl) (hsw : swapsWith (.Call (.Attribute (.Name x p) "extend" apos) [e] [] cpos) none pos.line X.env = pure false := by rfl) :
    EvS X (.Expr (.Call (.Attribute (.Name x p) "extend" apos) [e] [] cpos) pos) (wExtend i we) where
  ps := PS.weak (ps_expr (pe_bm F.plainAttrs_list F.slot_list_extend F.type_list_extend (MtR.or mt_extend mt_extT) (pe_var hN hv hd hcd) (pa_cons h.pe pa_nil hs) hbase hfew hline hs hplain) hsw)
    fun D σ H ⟨c, sd, os, E, hk, r, er, q⟩ => by
    obtain ⟨ds, es, q⟩ := onOw_get q
    obtain ⟨v, oa, h1, h2, a, xs, rfl, rfl, h3, h4, h5⟩ := r.at_ es (by intro z; cases z)
    have na := own_notS r (List.mem_of_getElem? h2)
    refine ⟨_, h1, .inl ⟨rfl, _, .inl (.inl h3)⟩, c, sd, os, hk, r, h.mo _ _ _ (fun d kz y H1 x1 dm => ?_) q⟩
    have g3 := x1.st a _ na h3
    have g4 := DxAll.grow r.sO x1 h4
    cases d with
    | list zs =>
      obtain ⟨b, us, rfl, d1, d2⟩ := dm
      refine .inl ⟨a, b, xs, us, rfl, rfl, g3, (hid_some d1).2, by rw [h4.len, d2.len]; exact kz.1, ?_⟩
      exact er.nx _ _ _ _ (R.upd (r.grow x1) h2 (g4.app (by rw [hk]; exact d2))) kz.2
    | tuple zs =>
      obtain ⟨b, us, rfl, d1, d2⟩ := shTup dm
      refine .inr ⟨a, b, xs, us, rfl, rfl, g3, SqT.same hid_sub d1, by rw [h4.len, d2.len]; exact kz.1, ?_⟩
      exact er.nx _ _ _ _ (R.upd (r.grow x1) h2 (g4.app (by rw [hk]; exact d2))) kz.2
    | _ => exact kz.elim
  mo := fun E E' sd h1 _ _ _ q => by
    obtain ⟨ds, es, q⟩ := onOw_get q
    exact onOw_put es (h.mo _ _ _ (fun z y => dItems_mo (fun zs y => ⟨y.1, h1 _ y.2⟩) y) q)

/-! ### expressions that change lists of one's own -/
abbrev WM := SD → (RV → SD → Prop) → Prop
def tMu (K : PySem.W.Frag) (w : WM) : TE := fun σ H Q => ∃ (c : Cd) (sd : SD) (os : List (Option Addr)), c.K = K ∧ R c sd os σ H ∧
  w sd fun z sd' => ∀ v H1 H' os', R c sd' os' σ H1 → Ext c.S H1 H' → RvR K (OO c os') H1 H' v z → Q v H'
structure EvM (X : Cx) (e : Expr) (w : WM) : Prop where
  pe : PE X e (tMu X.K w)
  mo : ∀ sd (Q Q' : RV → SD → Prop), (∀ r s, Q r s → Q' r s) → w sd Q → w sd Q'
theorem EvR.m {w : WR} (h : EvR X e w) : EvM X e (fun sd Q => w sd fun z => Q z sd) where
  pe := PE.weak h.pe fun σ H Q ⟨c, sd, os, hk, r, q⟩ => ⟨c, sd, os, hk, r, h.mo _ _ _ (fun z k v H' x rv => k v H H' os r x rv) q⟩
  mo := fun sd Q Q' k q => h.mo _ _ _ (fun r z => k _ _ z) q
def wPop (i : Nat) : WM := fun sd Q => onOw i sd fun ds => match ds.getLast? with
  | some d => Q (.va d) (sd.set i (.ow ds.dropLast))
  | none => False
theorem DxAll.dropLast {K : PySem.W.Frag} {H : Hp} {vs : List V} {ds : List PyData} (h : DxAll K H vs ds) : DxAll K H vs.dropLast ds.dropLast := by
  rw [List.dropLast_eq_take, List.dropLast_eq_take, h.len]
  exact h.take _
theorem evm_pop (i : Nat) (hN : X.N[i]? = some x := by rfl)
    (hv : Vis X.env.scope x := by first | exact Or.inl rfl | exact Or.inr (Or.inl rfl) | exact Or.inr (Or.inr rfl))
    (hd : (x == ("__debug__" : Str)) = false := by decide) (hcd : (x == ("__classdict__" : Str)) = false := by decide)
    (hbase : attributeBase (.Name x p) "pop" X.env (eval (.Name x p) X.env) = eval (.Name x p) X.env := by rfl) (hline : (apos.endLine == cpos.line) = true := by rfl) :
    EvM X (.Call (.Attribute (.Name x p) "pop" apos) [] [] cpos) (wPop i) where
  pe := PE.weak (pe_bm0 F.plainAttrs_list F.slot_list_pop F.type_list_pop mt_pop (pe_var hN hv hd hcd) hbase hline) fun σ H Q ⟨c, sd, os, hk, r, q⟩ => by
    obtain ⟨ds, es, q⟩ := onOw_get q
    obtain ⟨v, oa, h1, h2, a, xs, rfl, rfl, h3, h4, h5⟩ := r.at_ es (by intro z; cases z)
    cases g : ds.getLast? with
    | none => rw [g] at q; exact q.elim
    | some d =>
      rw [g] at q
      rw [List.getLast?_eq_getElem?] at g
      obtain ⟨y, g1, g2⟩ := h4.get g
      refine ⟨_, h1, .inl ⟨rfl, _, .inl (.inl h3)⟩, a, xs, y, rfl, rfl, h3, by rw [h4.len]; exact g1, ?_⟩
      have hO : a ∈ OO c os := mem_OO.mpr (.inr (List.mem_of_getElem? h2))
      refine q y _ _ os (R.upd r h2 h4.dropLast) Ext.refl ?_
      show Dx X.K (hid (OO c os) _) y d
      rw [hid_upd hO, ← hk]
      exact g2
  mo := fun sd Q Q' k q => by
    obtain ⟨ds, es, q⟩ := onOw_get q
    refine onOw_put es ?_
    cases g : ds.getLast? with
    | none => rw [g] at q; exact q.elim
    | some d => rw [g] at q; exact k _ _ q
/-- a list of one's own is handed on: from now on nobody changes it -/
theorem R.frz {c : Cd} {sd : SD} {os : List (Option Addr)} {σ : L2.St} {H : Hp} {i : Nat} {ds : List PyData} (r : R c sd os σ H) (es : getS sd i = .ow ds) :
    ∃ v, σ[i]? = some (some v) ∧ R c (sd.set i (.va (.list ds))) (os.set i none) σ H ∧ Dx c.K (hid (OO c (os.set i none)) H) v (.list ds) := by
  obtain ⟨v, oa, h1, h2, a, xs, rfl, rfl, h3, h4, h5⟩ := r.at_ es (by intro z; cases z)
  have nO : a ∉ OO c (os.set i none) := fun m => by
    rcases mem_OO.mp m with q | q
    · exact r.dis a (List.mem_of_getElem? h2) q
    · obtain ⟨j, hj, e⟩ := List.getElem_of_mem q
      rcases set_get (show (os.set i none)[j]? = some (some a) by rw [List.getElem?_eq_getElem hj, e]) with ⟨_, z⟩ | ⟨n, z⟩
      · cases z
      · exact n (r.uniq j i a z h2)
  have sub : Same (hid (OO c os) H) (hid (OO c (os.set i none)) H) := hid_same (fun _ _ _ h => h) fun b m => by
    rcases mem_OO.mp m with q | q
    · exact .inl (mem_OO.mpr (.inl q))
    · obtain ⟨j, hj, e⟩ := List.getElem_of_mem q
      rcases set_get (show (os.set i none)[j]? = some (some b) by rw [List.getElem?_eq_getElem hj, e]) with ⟨_, z⟩ | ⟨_, z⟩
      · cases z
      · exact .inl (mem_OO.mpr (.inr (List.mem_of_getElem? z)))
  have dx : Dx c.K (hid (OO c (os.set i none)) H) (.ref a) (.list ds) := .lst (by rw [hid_out nO]; exact h3) (DxAll.same sub _ _ h4)
  refine ⟨_, h1, ⟨r.ext, r.src, r.sin, r.ocl, by simp [r.lend], by simp [r.leno], fun j s w oa g1 g2 g3 => ?_, fun j k b g1 g2 => ?_, fun p m => Dx.same sub _ _ (r.tmp p m), fun b m => ?_⟩, dx⟩
  · rcases set_get g1 with ⟨ej, e1⟩ | ⟨nj, e1⟩
    · subst ej e1
      rcases set_get g3 with ⟨_, e3⟩ | ⟨n, _⟩
      · subst e3
        rw [h1] at g2; cases g2
        exact ⟨rfl, _, rfl, dx⟩
      · exact absurd rfl n
    · rcases set_get g3 with ⟨n, _⟩ | ⟨_, e3⟩
      · exact absurd n nj
      · have q := r.slot j s w oa e1 g2 e3
        cases s with
        | un => exact q
        | so => exact q
        | fn _ => exact q
        | va d => obtain ⟨q1, y, q2, q3⟩ := q; exact ⟨q1, y, q2, Dx.same sub _ _ q3⟩
        | ow ds => obtain ⟨a, xs, q1, q2, q3, q4, q5⟩ := q; exact ⟨a, xs, q1, q2, q3, DxAll.same sub _ _ q4, q5⟩
        | od ds => obtain ⟨a, xs, q1, q2, q3, q4, q5⟩ := q; exact ⟨a, xs, q1, q2, q3, DE.same sub q4, q5⟩
  · rcases set_get g1 with ⟨_, e⟩ | ⟨n1, e1⟩
    · cases e
    · rcases set_get g2 with ⟨_, e⟩ | ⟨n2, e2⟩
      · cases e
      · exact r.uniq j k b e1 e2
  · obtain ⟨j, hj, e⟩ := List.getElem_of_mem m
    rcases set_get (show (os.set i none)[j]? = some (some b) by rw [List.getElem?_eq_getElem hj, e]) with ⟨_, z⟩ | ⟨_, z⟩
    · cases z
    · exact r.dis b (List.mem_of_getElem? z)
/-- a list of one's own is handed on: from now on nobody changes it -/
theorem R.frzO {c : Cd} {sd : SD} {os : List (Option Addr)} {σ : L2.St} {H : Hp} {i : Nat} {ds : List (PyData × PyData)} (r : R c sd os σ H) (es : getS sd i = .od ds) :
    ∃ v, σ[i]? = some (some v) ∧ R c (sd.set i (.va (.dict ds))) (os.set i none) σ H ∧ Dx c.K (hid (OO c (os.set i none)) H) v (.dict ds) := by
  obtain ⟨v, oa, h1, h2, a, xs, rfl, rfl, h3, h4, h5⟩ := r.at_ es (by intro z; cases z)
  have nO : a ∉ OO c (os.set i none) := fun m => by
    rcases mem_OO.mp m with q | q
    · exact r.dis a (List.mem_of_getElem? h2) q
    · obtain ⟨j, hj, e⟩ := List.getElem_of_mem q
      rcases set_get (show (os.set i none)[j]? = some (some a) by rw [List.getElem?_eq_getElem hj, e]) with ⟨_, z⟩ | ⟨n, z⟩
      · cases z
      · exact n (r.uniq j i a z h2)
  have sub : Same (hid (OO c os) H) (hid (OO c (os.set i none)) H) := hid_same (fun _ _ _ h => h) fun b m => by
    rcases mem_OO.mp m with q | q
    · exact .inl (mem_OO.mpr (.inl q))
    · obtain ⟨j, hj, e⟩ := List.getElem_of_mem q
      rcases set_get (show (os.set i none)[j]? = some (some b) by rw [List.getElem?_eq_getElem hj, e]) with ⟨_, z⟩ | ⟨_, z⟩
      · cases z
      · exact .inl (mem_OO.mpr (.inr (List.mem_of_getElem? z)))
  have dx : Dx c.K (hid (OO c (os.set i none)) H) (.ref a) (.dict ds) := DE.dx (by rw [hid_out nO]; exact h3) (DE.same sub h4)
  refine ⟨_, h1, ⟨r.ext, r.src, r.sin, r.ocl, by simp [r.lend], by simp [r.leno], fun j s w oa g1 g2 g3 => ?_, fun j k b g1 g2 => ?_, fun p m => Dx.same sub _ _ (r.tmp p m), fun b m => ?_⟩, dx⟩
  · rcases set_get g1 with ⟨ej, e1⟩ | ⟨nj, e1⟩
    · subst ej e1
      rcases set_get g3 with ⟨_, e3⟩ | ⟨n, _⟩
      · subst e3
        rw [h1] at g2; cases g2
        exact ⟨rfl, _, rfl, dx⟩
      · exact absurd rfl n
    · rcases set_get g3 with ⟨n, _⟩ | ⟨_, e3⟩
      · exact absurd n nj
      · have q := r.slot j s w oa e1 g2 e3
        cases s with
        | un => exact q
        | so => exact q
        | fn _ => exact q
        | va d => obtain ⟨q1, y, q2, q3⟩ := q; exact ⟨q1, y, q2, Dx.same sub _ _ q3⟩
        | ow ds => obtain ⟨a, xs, q1, q2, q3, q4, q5⟩ := q; exact ⟨a, xs, q1, q2, q3, DxAll.same sub _ _ q4, q5⟩
        | od ds => obtain ⟨a, xs, q1, q2, q3, q4, q5⟩ := q; exact ⟨a, xs, q1, q2, q3, DE.same sub q4, q5⟩
  · rcases set_get g1 with ⟨_, e⟩ | ⟨n1, e1⟩
    · cases e
    · rcases set_get g2 with ⟨_, e⟩ | ⟨n2, e2⟩
      · cases e
      · exact r.uniq j k b e1 e2
  · obtain ⟨j, hj, e⟩ := List.getElem_of_mem m
    rcases set_get (show (os.set i none)[j]? = some (some b) by rw [List.getElem?_eq_getElem hj, e]) with ⟨_, z⟩ | ⟨_, z⟩
    · cases z
    · exact r.dis b (List.mem_of_getElem? z)
def wFrz (i : Nat) : WM := fun sd Q => match getS sd i with
  | .ow ds => Q (.va (.list ds)) (sd.set i (.va (.list ds)))
  | .od es => Q (.va (.dict es)) (sd.set i (.va (.dict es)))
  | .va d => Q (.va d) sd
  | _ => False
theorem evm_frz (i : Nat) (hN : X.N[i]? = some x := by rfl)
    (hv : Vis X.env.scope x := by first | exact Or.inl rfl | exact Or.inr (Or.inl rfl) | exact Or.inr (Or.inr rfl))
    (hd : (x == ("__debug__" : Str)) = false := by decide) (hcd : (x == ("__classdict__" : Str)) = false := by decide) : EvM X (.Name x pos) (wFrz i) where
  pe := PE.weak (pe_var hN hv hd hcd) fun σ H Q ⟨c, sd, os, hk, r, q⟩ => by
    unfold wFrz at q
    cases es : getS sd i with
    | ow ds =>
      rw [es] at q
      obtain ⟨v, h1, r', dx⟩ := r.frz es
      exact ⟨v, h1, q v H H _ r' Ext.refl (show Dx X.K _ v _ by rw [← hk]; exact dx)⟩
    | od ds =>
      rw [es] at q
      obtain ⟨v, h1, r', dx⟩ := r.frzO es
      exact ⟨v, h1, q v H H _ r' Ext.refl (show Dx X.K _ v _ by rw [← hk]; exact dx)⟩
    | va d =>
      rw [es] at q
      obtain ⟨v, oa, h1, h2, h3, y, rfl, h4⟩ := r.at_ es (by intro z; cases z)
      exact ⟨y, h1, q y H H os r Ext.refl (show Dx X.K _ y d by rw [← hk]; exact h4)⟩
    | un => rw [es] at q; exact q.elim
    | so => rw [es] at q; exact q.elim
    | fn _ => rw [es] at q; exact q.elim
  mo := fun sd Q Q' k q => by
    unfold wFrz at q ⊢
    cases es : getS sd i with
    | ow ds => rw [es] at q; exact k _ _ q
    | od ds => rw [es] at q; exact k _ _ q
    | va ds => rw [es] at q; exact k _ _ q
    | un => rw [es] at q; exact q.elim
    | so => rw [es] at q; exact q.elim
    | fn _ => rw [es] at q; exact q.elim
/-- name = such an expression -/
theorem evs_setM {we : WM} {pos' : Pos} (i : Nat) (h : EvM X e we) (hN : X.N.Nodup) (hi : X.N[i]? = some x := by rfl) (hx : Loc X.env.scope x := by first | exact Or.inl rfl | exact Or.inr rfl)
    (hs : swapsWith e (some (.Name x pos')) pos.line X.env = pure false := by rfl) (hf : X.fn x = true ∨ X.env.scope.names.lookup x = some .local := by first | exact .inl rfl | exact .inr rfl) :
    EvS X (.Assign [.Name x pos'] e pos) (fun E sd => we sd fun z sd' => E.nx (sd'.set i z.sv)) where
  ps := PS.weak (ps_set hN hi hx h.pe hs hf) fun D σ H ⟨c, sd, os, E, hk, r, er, q⟩ => ⟨c, sd, os, hk, r, h.mo _ _ _ (fun z sd' kz v H1 H' os' r1 x rv => by
    obtain ⟨oa, r'⟩ := R.set (i := i) r1 x (by rw [hk]; exact rv)
    exact er.nx _ _ _ _ r' kz) q⟩
  mo := fun E E' sd h1 _ _ _ q => h.mo _ _ _ (fun z s y => h1 _ y) q
theorem evs_dropM {we : WM} (h : EvM X e we) (hs : swapsWith e none pos.line X.env = pure false := by rfl) : EvS X (.Expr e pos) (fun E sd => we sd fun _ sd' => E.nx sd') where
  ps := PS.weak (ps_expr h.pe hs) fun D σ H ⟨c, sd, os, E, hk, r, er, q⟩ => ⟨c, sd, os, hk, r, h.mo _ _ _ (fun z sd' kz v H1 H' os' r1 x rv => er.nx _ _ _ _ (r1.grow x) kz) q⟩
  mo := fun E E' sd h1 _ _ _ q => h.mo _ _ _ (fun z s y => h1 _ y) q
/-- f(such an expression) -/
theorem evm_call1 {k n : Nat} {f : Addr} {fd : FuncData} {ps : List Str} {fs : FSp} {we : WM} (F : FnG X.prog X.w X.K X.mg X.base CX0 k f fd ps (PSp X.K n fs)) (hmo : MoF fs) (hr : RmG k X.A) (hm : X.mg x = some (.ref f))
    (hk : PySem.W.keepIn X.K (.ref f) = true) (hb : Binds X.K fd ps []) (h : EvM X e we) (hg : Gl X x := by rfl) (hn : 1 = n := by rfl)
    (hdb : (x == ("__debug__" : Str)) = false := by decide)
    (he : starEach [e] X.env = (false, eval e X.env) :: starEach [] X.env := by rfl)
    (hpl : (backTo pos (starEach [] X.env)).any (·.1) = false := by rfl) :
    EvM X (.Call (.Name x p) [e] [] pos) (fun sd Q => we sd fun z sd' => fs [.va z.dat] fun r => Q r sd') where
  pe := PE.weak (pe_callG F hr hg hm hk hb pass0 (pa_cons h.pe pa_nil he) hdb he hpl) fun σ H Q ⟨c, sd, os, hk, r, q⟩ =>
    ⟨c, sd, os, hk, r, h.mo _ _ _ (fun z sd' kz v H1 H' os' r1 x1 rv => by
      have r2 := r1.grow x1
      refine ⟨c.S, OO c os', [.va z.dat], r2.srcNow, r1.sO, r2.ocNow, .va (RvR.cl rv fun b m => r1.there m) .nil, hn, hmo _ _ _ (fun y ky u H2 x2 rv2 => ?_) kz⟩
      exact ky u H' H2 os' r2 x2 rv2) q⟩
  mo := fun sd Q Q' k q => h.mo _ _ _ (fun z s y => hmo _ _ _ (fun r y => k _ _ y) y) q

/-! ### while -/
/-- what a loop's body is to reach -/
def loopE (E : ED) (P : SD → Prop) : ED := { nx := P, rt := E.rt, bk := E.nx, ct := P }
def wWhile (t : WB) (wb : WS) : WS := fun E sd => ∃ I : Nat → SD → Prop, (∃ m, I m sd) ∧ ∀ m sd, I m sd → t sd fun b =>
  if b = true then wb (loopE E fun s => ∃ m', m' < m ∧ I m' s) sd else E.nx sd
theorem evs_while {tst : Expr} {body : List Stmt} {t : WB} {wb : WS} (hc : EvT X tst t) (hb : EvB X body wb) (hp : PassesOwn (model X.prog X.w) X.A X.env X.xe := by exact PassesOwn.never) :
    EvS X (.While tst body [] pos) (wWhile t wb) where
  ps := PS.weak (ps_while hp hc.pt hb.ps) fun D σ H ⟨c, sd, os, E, hk, r, er, I, ⟨m0, i0⟩, q⟩ => by
    refine ⟨fun m σ H => ∃ sd os, R c sd os σ H ∧ I m sd, ⟨m0, sd, os, r, i0⟩, fun m σ H ⟨sd, os, r, im⟩ => ?_⟩
    refine ⟨c, sd, os, hk, r, hc.mo _ _ _ (fun b kb H1 x1 => ?_) (q m sd im)⟩
    cases b with
    | false => exact er.nx _ _ _ _ (r.grow x1) kb
    | true =>
      refine ⟨fun σ' H' => ∃ sd os, R c sd os σ' H' ∧ ∃ m', m' < m ∧ I m' sd, fun σ' H' ⟨sd, os, r, m', l, i⟩ => ⟨m', l, sd, os, r, i⟩, ?_⟩
      exact ⟨c, sd, os, loopE E fun s => ∃ m', m' < m ∧ I m' s, hk, r.grow x1, ⟨fun sd os σ H r k => ⟨sd, os, r, k⟩, er.nx, fun sd os σ H r k => ⟨sd, os, r, k⟩, er.rt⟩, kb⟩
  mo := fun E E' sd h1 h2 h3 h4 ⟨I, i0, q⟩ => ⟨I, i0, fun m sd im => hc.mo _ _ _ (fun b kb => by
    cases b with
    | true => exact hb.mo (loopE E fun s => ∃ m', m' < m ∧ I m' s) (loopE E' fun s => ∃ m', m' < m ∧ I m' s) sd (fun _ z => z) h2 h1 (fun _ z => z) kb
    | false => exact h1 _ kb) (q m sd im)⟩
end
end DL

set_option Elab.async false
set_option linter.all false
set_option maxRecDepth 100000
set_option maxHeartbeats 4000000
/-! targets, for, comprehensions, defs -/
namespace DL
open PySem PySem.Spec PyProof.Rows L2
variable [Tb]
/-! ### targets -/
abbrev WG := PyData → SD → (SD → Prop) → Prop
abbrev WGs := List PyData → SD → (SD → Prop) → Prop
/-- only the slots told are other ones -/
def But (is : List Nat) (σ σ' : L2.St) (os os' : List (Option Addr)) : Prop := σ'.length = σ.length ∧ ∀ j, j ∉ is → σ'[j]? = σ[j]? ∧ os'[j]? = os[j]?
theorem But.refl {is : List Nat} {σ : L2.St} {os : List (Option Addr)} : But is σ σ os os := ⟨rfl, fun _ _ => ⟨rfl, rfl⟩⟩
theorem But.trans {is js : List Nat} {σ σ1 σ2 : L2.St} {os os1 os2 : List (Option Addr)} (a : But is σ σ1 os os1) (b : But js σ1 σ2 os1 os2) : But (is ++ js) σ σ2 os os2 :=
  ⟨b.1.trans a.1, fun j n => by
    obtain ⟨x1, x2⟩ := a.2 j fun m => n (List.mem_append_left _ m)
    obtain ⟨y1, y2⟩ := b.2 j fun m => n (List.mem_append_right _ m)
    exact ⟨y1.trans x1, y2.trans x2⟩⟩
def tGt (K : PySem.W.Frag) (is : List Nat) (g : WG) : TG := fun v σ H Q => ∃ (c : Cd) (sd : SD) (os : List (Option Addr)) (d : PyData), c.K = K ∧ R c sd os σ H ∧ Dx K (hid (OO c os) H) v d ∧
  g d sd fun sd' => ∀ σ' os', R c sd' os' σ' H → But is σ σ' os os' → Q σ' H
def tGs (K : PySem.W.Frag) (is : List Nat) (g : WGs) : TGs := fun vs σ H Q => ∃ (c : Cd) (sd : SD) (os : List (Option Addr)) (ds : List PyData), c.K = K ∧ R c sd os σ H ∧ DxAll K (hid (OO c os) H) vs ds ∧
  g ds sd fun sd' => ∀ σ' os', R c sd' os' σ' H → But is σ σ' os os' → Q σ' H
structure EvG (X : Cx) (tg : Expr) (is : List Nat) (g : WG) : Prop where
  pg : PG X tg (tGt X.K is g)
  mo : ∀ d sd (Q Q' : SD → Prop), (∀ s, Q s → Q' s) → g d sd Q → g d sd Q'
structure EvGs (X : Cx) (tg : List Expr) (is : List Nat) (g : WGs) : Prop where
  pg : PGs X tg (tGs X.K is g)
  mo : ∀ d sd (Q Q' : SD → Prop), (∀ s, Q s → Q' s) → g d sd Q → g d sd Q'
theorem PG.weak {X : Cx} {e : Expr} {t t' : TG} (h : PG X e t) (k : ∀ v σ H Q, t' v σ H Q → t v σ H Q) : PG X e t' :=
  ⟨fun pins s σ H v u Q I r q => h.run pins s σ H v u Q I r (k v σ H Q q)⟩
theorem PGs.weak {X : Cx} {e : List Expr} {t t' : TGs} (h : PGs X e t) (k : ∀ v σ H Q, t' v σ H Q → t v σ H Q) : PGs X e t' :=
  ⟨fun pins s σ H v u Q I r q => h.run pins s σ H v u Q I r (k v σ H Q q)⟩
/-- more that stays -/
theorem R.more {c : Cd} {sd : SD} {os : List (Option Addr)} {σ : L2.St} {H : Hp} (r : R c sd os σ H) (t : List (V × PyData)) (h : ∀ p ∈ t, Dx c.K (hid (OO c os) H) p.1 p.2) : R { c with T := t ++ c.T } sd os σ H :=
  ⟨r.ext, r.src, r.sin, r.ocl, r.lend, r.leno, r.slot, r.uniq, fun p m => (List.mem_append.mp m).elim (h p) (r.tmp p), r.dis⟩
theorem R.less {c : Cd} {sd : SD} {os : List (Option Addr)} {σ : L2.St} {H : Hp} {t : List (V × PyData)} (r : R { c with T := t ++ c.T } sd os σ H) : R c sd os σ H :=
  ⟨r.ext, r.src, r.sin, r.ocl, r.lend, r.leno, r.slot, r.uniq, fun p m => r.tmp p (List.mem_append_right _ m), r.dis⟩
theorem zip_of {K : PySem.W.Frag} {H : Hp} : ∀ {vs : List V} {ds : List PyData}, DxAll K H vs ds → ∀ p ∈ vs.zip ds, Dx K H p.1 p.2
  | _, _, .nil, p, m => by cases m
  | _, _, .cons h t, p, m => by
    rw [List.zip_cons_cons] at m
    rcases List.mem_cons.mp m with rfl | m
    · exact h
    · exact zip_of t p m
theorem of_zip {K : PySem.W.Frag} {H : Hp} : ∀ {vs : List V} {ds : List PyData}, vs.length = ds.length → (∀ p ∈ vs.zip ds, Dx K H p.1 p.2) → DxAll K H vs ds
  | [], [], _, _ => .nil
  | v :: vs, d :: ds, e, h => .cons (h (v, d) (by rw [List.zip_cons_cons]; exact List.mem_cons_self)) (of_zip (by simpa using e) fun p m => h p (by rw [List.zip_cons_cons]; exact List.mem_cons_of_mem _ m))
section
variable {X : Cx} {e : Expr} {es : List Expr} {pos p apos cpos : Pos} {x : Str}
def gtName (i : Nat) : WG := fun d sd Q => Q (sd.set i (.va d))
theorem evg_name (i : Nat) (hN : X.N.Nodup) (hi : X.N[i]? = some x := by rfl) (hx : Loc X.env.scope x := by first | exact Or.inl rfl | exact Or.inr rfl)
    (hf : X.fn x = true ∨ X.env.scope.names.lookup x = some .local := by first | exact .inl rfl | exact .inr rfl) : EvG X (.Name x pos) [i] (gtName i) where
  pg := PG.weak (pg_name hN hi hx hf) fun v σ H Q ⟨c, sd, os, d, hk, r, dx, q⟩ => by
    obtain ⟨oa, r'⟩ := R.set (i := i) (z := .va d) r Ext.refl (show Dx c.K (hid (OO c os) H) v d by rw [hk]; exact dx)
    refine q _ _ r' ⟨by simp, fun j n => ?_⟩
    have nj : i ≠ j := fun e => n (by rw [e]; exact List.mem_cons_self)
    exact ⟨List.getElem?_set_ne nj, List.getElem?_set_ne nj⟩
  mo := fun d sd Q Q' k q => k _ q
def gtNil : WGs := fun ds sd Q => ds = [] ∧ Q sd
def gtCons (g : WG) (gs : WGs) : WGs := fun ds sd Q => match ds with
  | [] => False
  | d :: ds => g d sd fun sd' => gs ds sd' Q
theorem evgs_nil : EvGs X [] [] gtNil where
  pg := PGs.weak pgs_nil fun vs σ H Q ⟨c, sd, os, ds, hk, r, dx, e, q⟩ => by
    subst e
    cases dx
    exact ⟨rfl, q _ _ r But.refl⟩
  mo := fun d sd Q Q' k q => ⟨q.1, k _ q.2⟩
theorem evgs_cons {g : WG} {gs : WGs} {is js : List Nat} (h : EvG X e is g) (t : EvGs X es js gs)
    (hs : (assignEach (e :: es) X.env).map (·.2) = assign e X.env :: (assignEach es X.env).map (·.2) := by rfl) : EvGs X (e :: es) (is ++ js) (gtCons g gs) where
  pg := PGs.weak (pgs_cons h.pg t.pg hs) fun vs σ H Q ⟨c, sd, os, ds, hk, r, dx, q⟩ => by
    cases dx with
    | nil => exact q.elim
    | @cons v vs d ds d1 d2 =>
      have dd : ∀ p ∈ vs.zip ds, Dx c.K (hid (OO c os) H) p.1 p.2 := by rw [hk]; exact zip_of d2
      have lz := d2.len
      refine ⟨v, vs, rfl, { c with T := vs.zip ds ++ c.T }, sd, os, d, hk, r.more _ dd, d1, h.mo _ _ _ _ (fun sd' k σ' os' r' b => ?_) q⟩
      refine ⟨c, sd', os', ds, hk, r'.less, of_zip lz fun p m => ?_, t.mo _ _ _ _ (fun sd2 k2 σ2 os2 r2 b2 => k2 σ2 os2 r2 (b.trans b2)) k⟩
      have := r'.tmp p (List.mem_append_left _ m)
      rw [← hk]
      exact this
  mo := fun d sd Q Q' k q => by
    cases d with
    | nil => exact q.elim
    | cons d ds => exact h.mo _ _ _ _ (fun s z => t.mo _ _ _ _ k z) q
def gtTup (n : Nat) (gs : WGs) : WG := fun d sd Q => match d with
  | .tuple ds => ds.length = n ∧ gs ds sd Q
  | _ => False
theorem evg_tup {gs : WGs} {k n : Nat} {is : List Nat} (hc : X.calm = true) (h : EvGs X es is gs) (hn : (assignEach es X.env).length = n := by rfl) (hst : (assignEach es X.env).findIdx? (·.1) = none := by rfl) : EvG X (.Tuple es k pos) is (gtTup n gs) where
  pg := PG.weak (pg_tup hc h.pg hn hst) fun v σ H Q ⟨c, sd, os, d, hk, r, dx, q⟩ => by
    cases d with
    | tuple ds =>
      cases dx with
      | tup h1 h2 => exact ⟨_, _, rfl, SqT.same hid_sub h1, by rw [h2.len]; exact q.1, c, sd, os, ds, hk, r, h2, q.2⟩
    | _ => exact q.elim
  mo := fun d sd Q Q' k q => by
    cases d with
    | tuple ds => exact ⟨q.1, h.mo _ _ _ _ k q.2⟩
    | _ => exact q.elim
/-- a target = an expression -/
theorem evs_asg {tg : Expr} {we : WM} {g : WG} {is : List Nat} (h : EvM X e we) (hg : EvG X tg is g) (hs : swapsWithSole [tg] e pos.line X.env = pure false := by rfl) (hw : swappedStores [tg] e X.env = pure none := by rfl)
    (h1 : (assignEach [tg] X.env).map (·.2) = [assign tg X.env] := by rfl) : EvS X (.Assign [tg] e pos) (fun E sd => we sd fun z sd' => g z.dat sd' E.nx) where
  ps := PS.weak (ps_asg h.pe hg.pg hs hw h1) fun D σ H ⟨c, sd, os, E, hk, r, er, q⟩ => ⟨c, sd, os, hk, r, h.mo _ _ _ (fun z sd' kz v H1 H' os' r1 x rv =>
    ⟨c, sd', os', z.dat, hk, r1.grow x, RvR.cl rv fun b m => r1.there m, hg.mo _ _ _ _ (fun s y σ' os' r' _ => er.nx _ _ _ _ r' y) kz⟩) q⟩
  mo := fun E E' sd k1 _ _ _ q => h.mo _ _ _ (fun z s y => hg.mo _ _ _ _ k1 y) q
/-- a, b = x, y -/
theorem RvR.grow {K : PySem.W.Frag} {S O : List Addr} {H H1 H' : Hp} {v : V} {z : RV} (hs : ∀ a ∈ S, a ∈ O) (hn : ∀ a ∈ S, H a ≠ none) (x : Ext S H1 H') (h : RvR K O H H1 v z) : RvR K O H H' v z := by
  cases z with
  | va d => exact Dx.grow (S := S) hs x h
  | fr ds =>
    obtain ⟨p, xs, e1, e2, e3, e4⟩ := h
    exact ⟨p, xs, e1, e2, x.st p _ (fun z => hn p z e2) e3, DxAll.grow (S := S) (fun a m => List.mem_cons_of_mem _ (hs a m)) x e4⟩
  | fd es =>
    obtain ⟨p, xs, e1, e2, e3, e4⟩ := h
    exact ⟨p, xs, e1, e2, x.st p _ (fun z => hn p z e2) e3, DE.grow (S := S) (fun a m => List.mem_cons_of_mem _ (hs a m)) x e4⟩
/-- a new list is hidden -/
theorem R.hide {c : Cd} {sd : SD} {os : List (Option Addr)} {σ : L2.St} {H H' : Hp} {p : Addr} {o : HO} (r : R c sd os σ H) (x : Ext c.S H H') (hp : H p = none) (hp' : H' p = some o) (ho : IsOwn o) : R { c with Oc := p :: c.Oc } sd os σ H' := by
  have rr := r.grow x
  have nO : p ∉ OO c os := r.newOut hp
  have sub : Same (hid (OO c os) H) (hid (OO { c with Oc := p :: c.Oc } os) H') := hid_same (fun a o n e => x.st a o (fun z => n (r.sO a z)) e) fun a m => by
    rcases mem_OO.mp m with q | q
    · rcases List.mem_cons.mp q with rfl | q
      · exact .inr hp
      · exact .inl (mem_OO.mpr (.inl q))
    · exact .inl (mem_OO.mpr (.inr q))
  refine ⟨rr.ext, r.src, fun a m => List.mem_cons_of_mem _ (r.sin a m), fun a m => ?_, r.lend, r.leno, fun i s v oa h1 h2 h3 => ?_, r.uniq, fun q m => Dx.same sub _ _ (r.tmp q m), fun a m z => ?_⟩
  · rcases List.mem_cons.mp m with rfl | m
    · exact .inr ⟨o, hp', ho⟩
    · exact rr.ocl a m
  · have q := r.slot i s v oa h1 h2 h3
    cases s with
    | un => exact q
    | so => exact q
    | fn _ => exact q
    | va d => obtain ⟨q1, y, q2, q3⟩ := q; exact ⟨q1, y, q2, Dx.same sub _ _ q3⟩
    | ow ds =>
      obtain ⟨b, ys, q1, q2, q3, q4, q5⟩ := q
      subst q1
      exact ⟨b, ys, rfl, q2, x.st b _ (own_notS r (List.mem_of_getElem? h3)) q3, DxAll.same sub _ _ q4, q5⟩
    | od ds =>
      obtain ⟨b, ys, q1, q2, q3, q4, q5⟩ := q
      subst q1
      exact ⟨b, ys, rfl, q2, x.st b _ (own_notS r (List.mem_of_getElem? h3)) q3, DE.same sub q4, q5⟩
  · rcases List.mem_cons.mp z with rfl | z
    · exact nO (mem_OO.mpr (.inr m))
    · exact r.dis a m z
end
end DL

set_option Elab.async false
set_option linter.all false
set_option maxRecDepth 100000
set_option maxHeartbeats 4000000
/-! for, comprehensions -/
namespace DL
open PySem PySem.Spec PyProof.Rows L2
variable [Tb]
theorem R.adoptG {c : Cd} {sd : SD} {os : List (Option Addr)} {σ : L2.St} {H : Hp} {p : Addr} {sv : SV} (i : Nat) (r : R { c with Oc := p :: c.Oc } sd os σ H)
    (hn : p ∉ c.Oc) (hsn : ∀ a ∈ c.S, a ∈ c.Oc) (hd : ∀ O : List Addr, Same (hid (OO { c with Oc := p :: c.Oc } os) H) (hid O H) → SlotR c O H sv (some (.ref p)) (some p)) :
    ∃ os', R c (sd.set i sv) os' (σ.set i (some (.ref p))) H := by
  have np : some p ∉ os := fun m => r.dis p m List.mem_cons_self
  have sub : Same (hid (OO { c with Oc := p :: c.Oc } os) H) (hid (OO c (os.set i (some p))) H) := hid_same (fun _ _ _ h => h) fun a m => by
    rcases mem_OO.mp m with q | q
    · exact .inl (mem_OO.mpr (.inl (List.mem_cons_of_mem _ q)))
    · obtain ⟨j, hj, e⟩ := List.getElem_of_mem q
      rcases set_get (show (os.set i (some p))[j]? = some (some a) by rw [List.getElem?_eq_getElem hj, e]) with ⟨_, z⟩ | ⟨_, z⟩
      · cases z; exact .inl (mem_OO.mpr (.inl List.mem_cons_self))
      · exact .inl (mem_OO.mpr (.inr (List.mem_of_getElem? z)))
  refine ⟨os.set i (some p), r.ext, r.src, hsn, fun a m => r.ocl a (List.mem_cons_of_mem _ m), by simp [r.lend], by simp [r.leno], fun j s w oa h1 h2 h3 => ?_, fun j k a h1 h2 => ?_, fun q m => Dx.same sub _ _ (r.tmp q m), fun a m z => ?_⟩
  · rcases set_get h1 with ⟨ej, e1⟩ | ⟨nj, e1⟩
    · subst ej e1
      rcases set_get h2 with ⟨_, e2⟩ | ⟨n, _⟩
      · rcases set_get h3 with ⟨_, e3⟩ | ⟨n, _⟩
        · subst e2 e3
          exact hd _ sub
        · exact absurd rfl n
      · exact absurd rfl n
    · rcases set_get h2 with ⟨n, _⟩ | ⟨_, e2⟩
      · exact absurd n nj
      · rcases set_get h3 with ⟨n, _⟩ | ⟨_, e3⟩
        · exact absurd n nj
        · have q := r.slot j s w oa e1 e2 e3
          cases s with
          | un => exact q
          | so => exact q
          | fn _ => exact q
          | va d => obtain ⟨q1, y, q2, q3⟩ := q; exact ⟨q1, y, q2, Dx.same sub _ _ q3⟩
          | ow ds => obtain ⟨a, xs, q1, q2, q3, q4, q5⟩ := q; exact ⟨a, xs, q1, q2, q3, DxAll.same sub _ _ q4, q5⟩
          | od ds => obtain ⟨a, xs, q1, q2, q3, q4, q5⟩ := q; exact ⟨a, xs, q1, q2, q3, DE.same sub q4, q5⟩
  · rcases set_get h1 with ⟨ej, e1⟩ | ⟨n1, e1⟩
    · cases e1
      rcases set_get h2 with ⟨ek, e2⟩ | ⟨n2, e2⟩
      · rw [ej, ek]
      · exact absurd (List.mem_of_getElem? e2) np
    · rcases set_get h2 with ⟨ek, e2⟩ | ⟨n2, e2⟩
      · cases e2
        exact absurd (List.mem_of_getElem? e1) np
      · exact r.uniq j k a e1 e2
  · obtain ⟨j, hj, e⟩ := List.getElem_of_mem m
    rcases set_get (show (os.set i (some p))[j]? = some (some a) by rw [List.getElem?_eq_getElem hj, e]) with ⟨_, y⟩ | ⟨_, y⟩
    · cases y; exact hn z
    · exact r.dis a (List.mem_of_getElem? y) (List.mem_cons_of_mem _ z)
theorem R.adopt {c : Cd} {sd : SD} {os : List (Option Addr)} {σ : L2.St} {H : Hp} {p : Addr} {xs : List V} {ds : List PyData} (i : Nat) (r : R { c with Oc := p :: c.Oc } sd os σ H)
    (hp : H p = some (.lst xs)) (h0 : c.H0 p = none) (hn : p ∉ c.Oc) (hsn : ∀ a ∈ c.S, a ∈ c.Oc) (hd : DxAll c.K (hid (OO { c with Oc := p :: c.Oc } os) H) xs ds) :
    ∃ os', R c (sd.set i (.ow ds)) os' (σ.set i (some (.ref p))) H :=
  r.adoptG i hn hsn fun O sub => ⟨p, xs, rfl, rfl, hp, DxAll.same sub _ _ hd, h0⟩
theorem R.adoptD {c : Cd} {sd : SD} {os : List (Option Addr)} {σ : L2.St} {H : Hp} {p : Addr} {o : HO} {es : List (PyData × PyData)} (i : Nat) (r : R { c with Oc := p :: c.Oc } sd os σ H)
    (hp : H p = some o) (h0 : c.H0 p = none) (hn : p ∉ c.Oc) (hsn : ∀ a ∈ c.S, a ∈ c.Oc) (hd : DE c.K (hid (OO { c with Oc := p :: c.Oc } os) H) o es) :
    ∃ os', R c (sd.set i (.od es)) os' (σ.set i (some (.ref p))) H :=
  r.adoptG i hn hsn fun O sub => ⟨p, o, rfl, rfl, hp, DE.same sub hd, h0⟩
section
variable {X : Cx} {a b e : Expr} {es : List Expr} {pos p px py pt apos cpos : Pos} {x y : Str}
theorem evs_par {wa wb : WR} {kt k2 pt2} (i j : Nat) (ha : EvR X a wa) (hb : EvR X b wb) (hc : X.calm = true) (hN : X.N.Nodup) (hi : X.N[i]? = some x := by rfl) (hj : X.N[j]? = some y := by rfl) (hij : i ≠ j := by decide)
    (hx : X.env.scope.names.lookup x = some .local := by rfl) (hy : X.env.scope.names.lookup y = some .local := by rfl)
    (h1 : starEach [a, b] X.env = (false, eval a X.env) :: starEach [b] X.env := by rfl) (h2 : starEach [b] X.env = (false, eval b X.env) :: starEach [] X.env := by rfl)
    (hw : swappedStores [.Tuple [.Name x px, .Name y py] kt pt] (.Tuple [a, b] k2 pt2) X.env = pure (some [x, y]) := by rfl)
    (hs : swapsWithSole [.Tuple [.Name x px, .Name y py] kt pt] (.Tuple [a, b] k2 pt2) pos.line X.env = pure false := by rfl) :
    EvS X (.Assign [.Tuple [.Name x px, .Name y py] kt pt] (.Tuple [a, b] k2 pt2) pos) (fun E sd => wa sd fun z1 => wb sd fun z2 => E.nx ((sd.set i z1.sv).set j z2.sv)) where
  ps := PS.weak (ps_par hc hN hi hj hij hx hy (pa_cons ha.pe (pa_cons hb.pe pa_nil h2) h1) hw hs) fun D σ H ⟨c, sd, os, E, hk, r, er, q⟩ => by
    refine ⟨c, sd, os, hk, r, ha.mo _ _ _ (fun z1 kz v1 H1 x1 rv1 => ?_) q⟩
    cases z1 with
    | va d1 =>
      have rr := (r.grow x1).more [(v1, d1)] (fun q m => by
        rw [List.mem_singleton] at m
        subst m
        rw [hk]
        exact rv1)
      refine ⟨{ c with T := [(v1, d1)] ++ c.T }, sd, os, hk, rr, hb.mo _ _ _ (fun z2 kz v2 H2 x2 rv2 => ⟨v1, v2, rfl, ?_⟩) kz⟩
      obtain ⟨os2, r2⟩ := R.set (i := j) rr x2 (show RvR c.K (OO c os) H1 H2 v2 z2 by rw [hk]; exact rv2)
      have d1' := r2.tmp (v1, d1) (List.mem_append_left _ List.mem_cons_self)
      obtain ⟨os3, r3⟩ := R.set (i := i) (z := .va d1) r2.less Ext.refl d1'
      have r4 : R c ((sd.set j z2.sv).set i (.va d1)) _ ((σ.set j (some v2)).set i (some v1)) H2 := r3
      rw [List.set_comm (l := sd) _ _ (Ne.symm hij), List.set_comm (l := σ) _ _ (Ne.symm hij)] at r4
      exact er.nx _ _ _ _ r4 kz
    | fr d1 =>
      obtain ⟨p1, xs1, rfl, e2, e3, e4⟩ := rv1
      have np : p1 ∉ OO c os := r.newOut e2
      have h0 : c.H0 p1 = none := by
        cases q : c.H0 p1 with
        | none => rfl
        | some o =>
          by_cases z : p1 ∈ c.S
          · exact absurd e2 (r.srcNow.there p1 z)
          · rw [r.ext.st p1 o z q] at e2; cases e2
      have lz := e4.len
      have rr := (r.hide x1 e2 e3 own_lst).more (xs1.zip d1) (fun q m => by
        have := zip_of e4 q m
        rw [← hk] at this
        exact this)
      refine ⟨{ c with Oc := p1 :: c.Oc, T := xs1.zip d1 ++ c.T }, sd, os, hk, rr, hb.mo _ _ _ (fun z2 kz v2 H2 x2 rv2 => ⟨_, v2, rfl, ?_⟩) kz⟩
      obtain ⟨os2, r2⟩ := R.set (i := j) rr x2 (show RvR c.K _ H1 H2 v2 z2 by rw [hk]; exact rv2)
      have hp2 : H2 p1 = some (.lst xs1) := x2.st p1 _ (fun z => np (r.sO p1 z)) e3
      have dz := of_zip (K := c.K) (H := hid (OO { c with Oc := p1 :: c.Oc } (os.set j os2)) H2) lz fun q m => r2.tmp q (List.mem_append_left _ m)
      obtain ⟨os3, r3⟩ := R.adopt (c := c) i r2.less hp2 h0 (fun z => np (mem_OO.mpr (.inl z))) r.sin dz
      rw [List.set_comm (l := sd) _ _ (Ne.symm hij), List.set_comm (l := σ) _ _ (Ne.symm hij)] at r3
      exact er.nx _ _ _ _ r3 kz
    | fd d1 =>
      obtain ⟨p1, o1, rfl, e2, e3, xs1, eo, e4⟩ := rv1
      have np : p1 ∉ OO c os := r.newOut e2
      have h0 : c.H0 p1 = none := by
        cases q : c.H0 p1 with
        | none => rfl
        | some o =>
          by_cases z : p1 ∈ c.S
          · exact absurd e2 (r.srcNow.there p1 z)
          · rw [r.ext.st p1 o z q] at e2; cases e2
      have lz := e4.len
      have rr := (r.hide x1 e2 e3 eo.own).more (xs1.zip (d1.map (·.2))) (fun q m => by
        have := zip_of e4 q m
        rw [← hk] at this
        exact this)
      refine ⟨{ c with Oc := p1 :: c.Oc, T := xs1.zip (d1.map (·.2)) ++ c.T }, sd, os, hk, rr, hb.mo _ _ _ (fun z2 kz v2 H2 x2 rv2 => ⟨_, v2, rfl, ?_⟩) kz⟩
      obtain ⟨os2, r2⟩ := R.set (i := j) rr x2 (show RvR c.K _ H1 H2 v2 z2 by rw [hk]; exact rv2)
      have hp2 : H2 p1 = some o1 := x2.st p1 _ (fun z => np (r.sO p1 z)) e3
      have dz := of_zip (K := c.K) (H := hid (OO { c with Oc := p1 :: c.Oc } (os.set j os2)) H2) lz fun q m => r2.tmp q (List.mem_append_left _ m)
      obtain ⟨os3, r3⟩ := R.adoptD (c := c) i r2.less hp2 h0 (fun z => np (mem_OO.mpr (.inl z))) r.sin ⟨xs1, eo, dz⟩
      rw [List.set_comm (l := sd) _ _ (Ne.symm hij), List.set_comm (l := σ) _ _ (Ne.symm hij)] at r3
      exact er.nx _ _ _ _ r3 kz
  mo := fun E E' sd k1 _ _ _ q => ha.mo _ _ _ (fun z y => hb.mo _ _ _ (fun z2 y => k1 _ y) y) q
/-! ### what is walked -/
/-- e, a list or a tuple -/
theorem pi_seq {tg l : Expr} {tl : TE} (hl : PE X l tl) : PI X tg l (fun σ H R' => tl σ H fun x H1 => (∃ a xs, x = .ref a ∧ SqL X.K H1 a xs ∧ R' (Itl X.K a) H1) ∨ ∃ a xs, x = .ref a ∧ SqT X.K H1 a xs ∧ R' (Itt X.K a) H1) := by
  constructor
  intro pins s σ H R' I h
  apply thn (hl.run pins s σ H _ I h)
  rintro v s1 ⟨x, H1, I1, r1, q1⟩
  have new : ∀ b ∈ [s1.heap.objs.size], FpOk X pins H1 b := by
    intro b hb
    rw [List.mem_singleton] at hb
    subst hb
    exact I1.fpOk (Nat.le_refl _) (I1.hok.fresh (Nat.le_refl _))
  rcases q1 with ⟨a, xs, rfl, hq, q⟩ | ⟨a, xs, rfl, hq, q⟩
  · cases r1
    obtain ⟨its, rv, pl, hz⟩ := I1.list hq
    apply wpAny_pyIter_list pl.isList
    exact ⟨_, [s1.heap.objs.size], _, _, H1, rfl, I1.kept (t' := s1.toks) fun b o e => Heap.get?_push_of_some _ e,
      turn_list a _, ⟨_, Heap.get?_push_size _ rfl, rfl, rfl⟩, new, q⟩
  · cases r1
    obtain ⟨its, rv, pl, hz⟩ := I1.tuple hq
    apply wpAny_pyIter_tuple (show s1.heap.IsTuple a its.toArray from pl)
    exact ⟨_, [s1.heap.objs.size], _, _, H1, rfl, I1.kept (t' := s1.toks) fun b o e => Heap.get?_push_of_some _ e,
      turn_tuple a _, ⟨_, Heap.get?_push_size _ rfl, rfl, rfl⟩, new, q⟩
def ItOk (K : PySem.W.Frag) (J : It) (ds : List PyData) (O : List Addr) (H : Hp) : Prop :=
  (∀ i d, ds[i]? = some d → J.go i H ∧ ∀ x H3, J.yld i H x H3 → H3 = H ∧ Dx K (hid O H) x d) ∧ ∀ i, ds.length ≤ i → J.stop i H
theorem it_l {K : PySem.W.Frag} {O : List Addr} {H : Hp} {a : Addr} {xs : List V} {ds : List PyData} (h : H a = some (.lst xs)) (hd : DxAll K (hid O H) xs ds) : ItOk K (Itl K a) ds O H := by
  refine ⟨fun i d e => ?_, fun i l => ⟨xs, .inl (.inl h), by rw [hd.len]; exact l⟩⟩
  obtain ⟨v, h1, h2⟩ := hd.get e
  refine ⟨⟨xs, v, .inl (.inl h), h1⟩, fun x H3 y => ⟨y.1, ?_⟩⟩
  have := y.2 xs (.inl (.inl h))
  rw [h1] at this
  cases this
  exact h2
theorem it_t {K : PySem.W.Frag} {O : List Addr} {H : Hp} {a : Addr} {xs : List V} {ds : List PyData} (h : SqT K H a xs) (hd : DxAll K (hid O H) xs ds) : ItOk K (Itt K a) ds O H := by
  refine ⟨fun i d e => ?_, fun i l => ⟨xs, h, by rw [hd.len]; exact l⟩⟩
  obtain ⟨v, h1, h2⟩ := hd.get e
  refine ⟨⟨xs, v, h, h1⟩, fun x H3 y => ⟨y.1, ?_⟩⟩
  have := y.2 xs h
  rw [h1] at this
  cases this
  exact h2
def rangeD (lo : Int) (n : Nat) : List PyData := (List.range n).map fun (k : Nat) => PyData.int (lo + k)
theorem it_r {K : PySem.W.Frag} {O : List Addr} {H : Hp} {lo : Int} {n : Nat} : ItOk K (Itr lo n) (rangeD lo n) O H := by
  refine ⟨fun i d e => ?_, fun i l => ?_⟩
  · unfold rangeD at e
    rw [List.getElem?_map] at e
    cases q : (List.range n)[i]? with
    | none => rw [q] at e; cases e
    | some k =>
      rw [q] at e
      obtain ⟨l, e2⟩ := List.getElem?_eq_some_iff.mp q
      rw [List.getElem_range] at e2
      rw [List.length_range] at l
      subst e2
      cases e
      exact ⟨l, fun x H3 y => ⟨y.1, by rw [y.2]; exact .int _⟩⟩
  · show n ≤ i
    unfold rangeD at l
    rw [List.length_map, List.length_range] at l
    exact l
/-! ### for -/
def forW (g : WG) (wb : WS) (E : ED) : List PyData → SD → Prop
  | [], sd => E.nx sd
  | d :: ds, sd => g d sd fun sd1 => wb (loopE E (forW g wb E ds)) sd1
theorem forW_mo {tg : Expr} {body : List Stmt} {g : WG} {wb : WS} {is : List Nat} (hg : EvG X tg is g) (hb : EvB X body wb) {E E' : ED} (h1 : ∀ sd, E.nx sd → E'.nx sd) (h2 : ∀ z, E.rt z → E'.rt z) : ∀ ds sd, forW g wb E ds sd → forW g wb E' ds sd
  | [], sd, q => h1 _ q
  | d :: ds, sd, q => hg.mo _ _ _ _ (fun s y => hb.mo (loopE E (forW g wb E ds)) (loopE E' (forW g wb E' ds)) s (forW_mo hg hb h1 h2 ds) h2 h1 (forW_mo hg hb h1 h2 ds) y) q
theorem for_run {tg : Expr} {body : List Stmt} {g : WG} {wb : WS} {is : List Nat} (hg : EvG X tg is g) (hb : EvB X body wb) {c : Cd} {sd : SD} {os : List (Option Addr)} {σ : L2.St} {H : Hp} {D : Ends} {E : ED} {J : It} {ds : List PyData} (t : List (V × PyData))
    (hk : c.K = X.K) (r : R c sd os σ H) (er : ER c E D) (ht : ∀ p ∈ t, Dx c.K (hid (OO c os) H) p.1 p.2) (hJ : ∀ O H, (∀ p ∈ t, Dx c.K (hid O H) p.1 p.2) → ItOk c.K J ds O H) (q : forW g wb E ds sd) :
    ∃ W : Nat → Nat → L2.St → Hp → Prop, (∃ m, W 0 m σ H) ∧ ∀ i m σ H, W i m σ H →
      (J.stop i H ∧ D.nx σ H) ∨ (J.go i H ∧ ∃ N : L2.St → Hp → Prop, (∀ σ' H', N σ' H' → ∃ m', m' < m ∧ W (i + 1) m' σ' H') ∧ ∀ x H', J.yld i H x H' → tGt X.K is g x σ H' fun σ2 H2 => tSt X.K wb { D with nx := N, ct := N, bk := D.nx } σ2 H2) := by
  refine ⟨fun i m σ H => ∃ sd os, R { c with T := t ++ c.T } sd os σ H ∧ forW g wb E (ds.drop i) sd ∧ m = ds.length - i ∧ i ≤ ds.length, ⟨_, sd, os, r.more t ht, q, rfl, Nat.zero_le _⟩, ?_⟩
  rintro i m σ H ⟨sd, os, r, q, rfl, hi⟩
  have ok := hJ (OO c os) H fun p m => r.tmp p (List.mem_append_left _ m)
  by_cases hlt : i < ds.length
  · have eg := List.getElem?_eq_getElem hlt
    obtain ⟨go, yl⟩ := ok.1 i _ eg
    rw [List.drop_eq_getElem_cons hlt] at q
    refine .inr ⟨go, fun σ' H' => ∃ sd os, R { c with T := t ++ c.T } sd os σ' H' ∧ forW g wb E (ds.drop (i + 1)) sd, fun σ' H' ⟨sd, os, r, q⟩ => ⟨ds.length - (i + 1), by omega, sd, os, r, q, rfl, hlt⟩, fun x H' y => ?_⟩
    obtain ⟨rfl, dx⟩ := yl x H' y
    refine ⟨{ c with T := t ++ c.T }, sd, os, ds[i], hk, r, by rw [← hk]; exact dx, hg.mo _ _ _ _ (fun s k σ' os' r' _ => ?_) q⟩
    refine ⟨{ c with T := t ++ c.T }, s, os', loopE E (forW g wb E (ds.drop (i + 1))), hk, r', ⟨fun sd os σ H r k => ⟨sd, os, r, k⟩, fun sd os σ H r k => er.nx _ _ _ _ r.less k, fun sd os σ H r k => ⟨sd, os, r, k⟩, er.rt⟩, k⟩
  · have e : i = ds.length := by omega
    subst e
    rw [List.drop_length] at q
    exact .inl ⟨ok.2 _ (Nat.le_refl _), er.nx _ _ _ _ r.less q⟩
end
end DL

set_option Elab.async false
set_option linter.all false
set_option maxRecDepth 100000
set_option maxHeartbeats 4000000
/-! for and comprehensions, as statements and expressions; a def by its body -/
namespace DL
open PySem PySem.Spec PyProof.Rows L2
variable [Tb]
section
variable {X : Cx} {a b e tg iter elt : Expr} {es : List Expr} {body : List Stmt} {pos p : Pos} {x y : Str} {g : WG} {wb : WS} {is : List Nat}
theorem evs_for {we : WM} (h : EvM X iter we) (hg : EvG X tg is g) (hb : EvB X body wb) (hc : X.calm = true) (hp : PassesOwn (model X.prog X.w) X.A X.env X.xe := by exact PassesOwn.never)
    (hs : ∀ x, foldedSetIterable iter X.env x = pure x := by intro _; rfl) : EvS X (.For tg iter body [] pos) (fun E sd => we sd fun z sd' => dItems z.dat fun ds => forW g wb E ds sd') where
  ps := PS.weak (ps_for hp hc (pi_seq h.pe) hg.pg hb.ps hs) fun D σ H ⟨c, sd, os, E, hk, r, er, q⟩ => by
    refine ⟨c, sd, os, hk, r, h.mo _ _ _ (fun z sd' kz v H1 H' os' r1 x1 rv => ?_) q⟩
    have r2 := r1.grow x1
    have dx : Dx c.K (hid (OO c os') H') v z.dat := by rw [hk]; exact RvR.cl rv fun b m => r1.there m
    have ht : ∀ p ∈ [(v, z.dat)], Dx c.K (hid (OO c os') H') p.1 p.2 := fun p m => by
      rw [List.mem_singleton] at m
      subst m
      exact dx
    cases ez : z.dat with
    | list ds =>
      rw [ez] at dx kz
      cases dx with
      | lst h1 h2 =>
        refine .inl ⟨_, _, rfl, .inl (.inl (hid_some h1).2), for_run hg hb _ hk r2 er ht (fun O H ok => ?_) kz⟩
        have := ok _ List.mem_cons_self
        rw [ez] at this
        cases this with
        | lst g1 g2 => rw [hk] at g2 ⊢; exact it_l (hid_some g1).2 g2
    | tuple ds =>
      rw [ez] at dx kz
      cases dx with
      | tup h1 h2 =>
        refine .inr ⟨_, _, rfl, SqT.same hid_sub (by rw [← hk]; exact h1), for_run hg hb _ hk r2 er ht (fun O H ok => ?_) kz⟩
        have := ok _ List.mem_cons_self
        rw [ez] at this
        cases this with
        | tup g1 g2 => rw [hk] at g1 g2 ⊢; exact it_t (SqT.same hid_sub g1) g2
    | none => rw [ez] at kz; exact kz.elim
    | bool _ => rw [ez] at kz; exact kz.elim
    | int _ => rw [ez] at kz; exact kz.elim
    | str _ => rw [ez] at kz; exact kz.elim
    | dict _ => rw [ez] at kz; exact kz.elim
  mo := fun E E' sd h1 h2 _ _ q => h.mo _ _ _ (fun z s y => dItems_mo (fun ds y => forW_mo hg hb h1 h2 ds _ y) y) q
def dInt1 (d : PyData) (k : Int → Prop) : Prop := match d with
  | .int n => (-(2 ^ 62) ≤ n ∧ n < 2 ^ 62) ∧ k n
  | _ => False
theorem dInt1_mo {d : PyData} {k k' : Int → Prop} (h : ∀ n, k n → k' n) (q : dInt1 d k) : dInt1 d k' := by
  cases d with
  | int n => exact ⟨q.1, h _ q.2⟩
  | _ => exact q.elim
theorem dInt1_get {d : PyData} {k : Int → Prop} (q : dInt1 d k) : ∃ n, d = .int n ∧ (-(2 ^ 62) ≤ n ∧ n < 2 ^ 62) ∧ k n := by
  cases d with
  | int n => exact ⟨n, rfl, q⟩
  | _ => exact q.elim
/-- for .. in range(a) -/
theorem evs_forR {we : WD} (h : Ev .sh X a we) (hg : EvG X tg is g) (hb : EvB X body wb) (hc : X.calm = true) (hm : X.mg "range" = none) (hgl : Gl X "range" := by rfl) (hp : PassesOwn (model X.prog X.w) X.A X.env X.xe := by exact PassesOwn.never)
    (h1 : starEach [a] X.env = (false, eval a X.env) :: starEach [] X.env := by rfl) (h2 : starEach [a] X.env = [(false, eval a X.env)] := by rfl)
    (hs : ∀ x, foldedSetIterable (.Call (.Name "range" p) [a] [] pos) X.env x = pure x := by intro _; rfl) {pos2 : Pos} :
    EvS X (.For tg (.Call (.Name "range" p) [a] [] pos) body [] pos2) (fun E sd => we sd fun d => dInt1 d fun n => forW g wb E (rangeD 0 n.toNat) sd) where
  ps := PS.weak (ps_for hp hc (pi_range1 hgl hm (pa_cons h.pe pa_nil h1) h2) hg.pg hb.ps hs) fun D σ H ⟨c, sd, os, E, hk, r, er, q⟩ =>
    ⟨c, sd, os, hk, r, h.mo _ _ _ (fun d kz v H1 x1 dm => by
      obtain ⟨n, rfl, ⟨q1, q2⟩, q3⟩ := dInt1_get kz
      exact ⟨n, by rw [shInt dm], q1, q2, for_run hg hb [] hk (r.grow x1) er (fun p m => by cases m) (fun O H _ => by rw [hk]; exact it_r) q3⟩) q⟩
  mo := fun E E' sd k1 k2 _ _ q => h.mo _ _ _ (fun d y => dInt1_mo (fun n y => forW_mo hg hb k1 k2 _ _ y) y) q
theorem evs_forR2 {wa we : WD} (h0 : Ev .sh X b wa) (h : Ev .sh X a we) (hg : EvG X tg is g) (hb : EvB X body wb) (hc : X.calm = true) (hm : X.mg "range" = none) (hgl : Gl X "range" := by rfl) (hp : PassesOwn (model X.prog X.w) X.A X.env X.xe := by exact PassesOwn.never)
    (h1 : starEach [b, a] X.env = (false, eval b X.env) :: starEach [a] X.env := by rfl) (h2 : starEach [a] X.env = (false, eval a X.env) :: starEach [] X.env := by rfl)
    (h3 : starEach [b, a] X.env = [(false, eval b X.env), (false, eval a X.env)] := by rfl) (h4 : starEach [a] X.env = [(false, eval a X.env)] := by rfl)
    (hs : ∀ x, foldedSetIterable (.Call (.Name "range" p) [b, a] [] pos) X.env x = pure x := by intro _; rfl) {pos2 : Pos} :
    EvS X (.For tg (.Call (.Name "range" p) [b, a] [] pos) body [] pos2) (fun E sd => wa sd fun d0 => we sd fun d => dInt1 d0 fun m => dInt1 d fun n => forW g wb E (rangeD m (n - m).toNat) sd) where
  ps := PS.weak (ps_for hp hc (pi_range2 hgl hm (pa_cons h0.pe (pa_cons h.pe pa_nil h2) h1) h3 h4) hg.pg hb.ps hs) fun D σ H ⟨c, sd, os, E, hk, r, er, q⟩ =>
    ⟨c, sd, os, hk, r, h0.mo _ _ _ (fun d0 k0 v0 H0 x0 dm0 => ⟨c, sd, os, hk, r.grow x0, h.mo _ _ _ (fun d kz v H1 x1 dm => by
      obtain ⟨m, rfl, ⟨p1, p2⟩, p3⟩ := dInt1_get kz
      obtain ⟨n, rfl, ⟨q1, q2⟩, q3⟩ := dInt1_get p3
      exact ⟨m, n, by rw [shInt dm, shInt dm0], ⟨p1, p2, q1, q2⟩, for_run hg hb [] hk (r.grow (x0.trans x1)) er (fun p m => by cases m) (fun O H _ => by rw [hk]; exact it_r) q3⟩) k0⟩) q⟩
  mo := fun E E' sd k1 k2 _ _ q => h0.mo _ _ _ (fun d0 y0 => h.mo _ _ _ (fun d y => dInt1_mo (fun m y => dInt1_mo (fun n y => forW_mo hg hb k1 k2 _ _ y) y) y) y0) q

/-! ### comprehensions -/
def wipeD (sd : SD) : List Nat → SD
  | [] => sd
  | v :: vs => (wipeD sd vs).set v .un
def noOw : SV → Bool
  | .ow _ => false
  | .od _ => false
  | _ => true
theorem noOw_own {s : SV} (h : s.isOwn = true) : noOw s = false := by
  cases s <;> first | rfl | cases h
theorem R.wipe {c : Cd} {sd : SD} {os : List (Option Addr)} {σ : L2.St} {H : Hp} (r : R c sd os σ H) : ∀ vs : List Nat, (∀ i ∈ vs, noOw (getS sd i) = true) → R c (wipeD sd vs) os (wipe σ vs) H
  | [], _ => r
  | v :: vs, h => by
    have q := R.wipe r vs fun i m => h i (List.mem_cons_of_mem _ m)
    refine ⟨q.ext, q.src, q.sin, q.ocl, by simp [wipeD, L2.wipe, q.lend], by simp [L2.wipe, q.leno], fun j s w oa h1 h2 h3 => ?_, q.uniq, q.tmp, q.dis⟩
    unfold wipeD at h1
    unfold L2.wipe at h2
    rcases set_get h1 with ⟨ej, e1⟩ | ⟨nj, e1⟩
    · subst ej e1
      show oa = none
      have l3 : j < os.length := (List.getElem?_eq_some_iff.mp h3).1
      have l1 : j < sd.length := by rw [r.lend, ← r.leno]; exact l3
      have l2 : j < σ.length := by rw [← r.leno]; exact l3
      have := r.slot j sd[j] σ[j] oa (List.getElem?_eq_getElem l1) (List.getElem?_eq_getElem l2) h3
      have no := h j List.mem_cons_self
      have eg : getS sd j = sd[j] := by
        clear this no h1 h2 h3 q h l3 l2 r
        induction sd generalizing j with
        | nil => simp at l1
        | cons s r ih =>
          cases j with
          | zero => rfl
          | succ k => exact ih k (by simpa using l1)
      rw [eg] at no
      cases es : sd[j] with
      | un => rw [es] at this; exact this
      | so => rw [es] at this; exact this.1
      | fn _ => rw [es] at this; exact this.1
      | od _ => rw [es] at no; cases no
      | va d => rw [es] at this; exact this.1
      | ow ds => rw [es] at no; cases no
    · rcases set_get h2 with ⟨n, _⟩ | ⟨_, e2⟩
      · exact absurd n nj
      · exact q.slot j s w oa e1 e2 h3
theorem wipe_but {σ σ' : L2.St} {os os' : List (Option Addr)} {is vs : List Nat} (b : But is σ σ' os os') (h : ∀ i ∈ is, i ∈ vs) : wipe σ' vs = wipe σ vs := by
  have at_ : ∀ (τ : L2.St) (ws : List Nat) (j : Nat), (wipe τ ws)[j]? = if j ∈ ws then (if j < τ.length then some none else none) else τ[j]? := by
    intro τ ws j
    induction ws with
    | nil => simp [L2.wipe]
    | cons w ws ih =>
      unfold L2.wipe
      by_cases e : w = j
      · subst e
        rw [if_pos List.mem_cons_self, List.getElem?_set]
        simp [L2.wipe_length]
      · rw [List.getElem?_set_ne e, ih]
        have : j ∈ w :: ws ↔ j ∈ ws := by
          rw [List.mem_cons]
          exact ⟨fun z => z.resolve_left fun q => e q.symm, .inr⟩
        simp only [this]
  apply List.ext_getElem?
  intro j
  rw [at_, at_, b.1]
  by_cases m : j ∈ vs
  · rw [if_pos m, if_pos m]
  · rw [if_neg m, if_neg m]
    exact (b.2 j fun z => m (h j z)).1
def lcW (g : WG) (t : WB) (we : WR) (sd : SD) : List PyData → (List PyData → Prop) → Prop
  | [], Q => Q []
  | d :: ds, Q => g d sd fun sd2 => t sd2 fun b => if b = true then we sd2 (fun z => lcW g t we sd ds fun out => Q (z.dat :: out)) else lcW g t we sd ds Q
/-- the tests of a comprehension -/
structure EvI (X : Cx) (ifs : List Expr) (w : WB) : Prop where
  pt : PTs X ifs (tTe X.K w)
  mo : ∀ sd (Q Q' : Bool → Prop), (∀ r, Q r → Q' r) → w sd Q → w sd Q'
theorem PTs.weak {X : Cx} {e : List Expr} {t t' : TT} (h : PTs X e t) (k : ∀ σ H Q, t' σ H Q → t σ H Q) : PTs X e t' :=
  ⟨fun pins s σ H Q I q => h.run pins s σ H Q I (k σ H Q q)⟩
theorem evi_nil : EvI X [] (fun _ Q => Q true) :=
  ⟨PTs.weak pts_nil fun σ H Q ⟨c, sd, os, hk, r, q⟩ => q H Ext.refl, fun _ _ _ k q => k _ q⟩
theorem evi_one {w : WB} (h : EvT X e w) : EvI X [e] w := ⟨pts_one h.pt, h.mo⟩
end
end DL

set_option Elab.async false
set_option linter.all false
set_option maxRecDepth 100000
set_option maxHeartbeats 4000000
/-! comprehensions; a def by its body -/
namespace DL
open PySem PySem.Spec PyProof.Rows L2
variable [Tb]
theorem getS_of : ∀ {sd : SD} {i : Nat} {s : SV}, sd[i]? = some s → getS sd i = s
  | [], _, _, h => by simp at h
  | t :: _, 0, s, h => by have e : t = s := by simpa using h
                          exact e
  | _ :: r, k + 1, s, h => getS_of (sd := r) (i := k) (by simpa using h)
theorem wipe_at (τ : L2.St) (j : Nat) : ∀ ws : List Nat, (wipe τ ws)[j]? = if j ∈ ws then (if j < τ.length then some none else none) else τ[j]?
  | [] => by simp [L2.wipe]
  | w :: ws => by
    unfold L2.wipe
    by_cases e : w = j
    · subst e
      rw [if_pos List.mem_cons_self, List.getElem?_set]
      simp [L2.wipe_length]
    · rw [List.getElem?_set_ne e, wipe_at τ j ws]
      have : j ∈ w :: ws ↔ j ∈ ws := by
        rw [List.mem_cons]
        exact ⟨fun z => z.resolve_left fun q => e q.symm, .inr⟩
      simp only [this]
theorem wipe_idem (σ : L2.St) (vs : List Nat) : wipe (wipe σ vs) vs = wipe σ vs := by
  apply List.ext_getElem?
  intro j
  rw [wipe_at, wipe_at, L2.wipe_length]
  by_cases m : j ∈ vs
  · rw [if_pos m, if_pos m]
  · rw [if_neg m, if_neg m]
section
variable {X : Cx} {a e tg iter elt : Expr} {ifs : List Expr} {pos p : Pos} {g : WG} {t : WB} {we : WR} {is vs : List Nat}
theorem lcW_mo (hg : ∀ d sd (Q Q' : SD → Prop), (∀ s, Q s → Q' s) → g d sd Q → g d sd Q') (ht : ∀ sd (Q Q' : Bool → Prop), (∀ r, Q r → Q' r) → t sd Q → t sd Q') (he : ∀ sd (Q Q' : RV → Prop), (∀ r, Q r → Q' r) → we sd Q → we sd Q') (sd : SD) :
    ∀ (ds : List PyData) (Q Q' : List PyData → Prop), (∀ r, Q r → Q' r) → lcW g t we sd ds Q → lcW g t we sd ds Q'
  | [], Q, Q', k, q => k _ q
  | d :: ds, Q, Q', k, q => hg _ _ _ _ (fun s y => ht _ _ _ (fun b y => by
      cases b with
      | true => exact he _ _ _ (fun z y => lcW_mo hg ht he sd ds _ _ (fun r y => k _ y) y) y
      | false => exact lcW_mo hg ht he sd ds _ _ k y) y) q
theorem lc_run {c : Cd} {sd : SD} {os : List (Option Addr)} {σ : L2.St} {H1 : Hp} {Q : VK} {J : It} {ds : List PyData} {D : Addr}
    (hg : ∀ d sd (Q Q' : SD → Prop), (∀ s, Q s → Q' s) → g d sd Q → g d sd Q') (ht : ∀ sd (Q Q' : Bool → Prop), (∀ r, Q r → Q' r) → t sd Q → t sd Q') (he : ∀ sd (Q Q' : RV → Prop), (∀ r, Q r → Q' r) → we sd Q → we sd Q')
    (hk : c.K = X.K) (r : R c sd os σ H1) (hD : H1 D = none) (hv : ∀ i ∈ vs, noOw (getS sd i) = true) (hsub : ∀ i ∈ is, i ∈ vs)
    (hJ : ∀ H2, Ext c.S H1 H2 → ItOk c.K J ds (OO { c with Oc := D :: c.Oc } os) H2) (hz : ds.length ≤ sizeLine)
    (q : lcW g t we (wipeD sd vs) ds fun out => ∀ v H', Ext c.S H1 H' → RvR X.K (OO c os) H1 H' v (.fr out) → Q v H') :
    ∃ W : Nat → Nat → Hp → Prop, (∃ m, W 0 m (upd H1 D (.lst []))) ∧ ∀ i m H, W i m H →
      (J.stop i H ∧ Q (.ref D) H) ∨ (J.go i H ∧ ∃ Nx : Hp → Prop, (∀ H', Nx H' → ∃ m', m' < m ∧ W (i + 1) m' H') ∧ ∀ x H', J.yld i H x H' →
        tGt X.K is g x (wipe σ vs) H' fun σ2 H2 => wipe σ2 vs = wipe σ vs ∧ tTe X.K t σ2 H2 fun b H3 =>
          if b = true then tR X.K we σ2 H3 fun y H4 => ∃ acc, H4 D = some (.lst acc) ∧ acc.length < sizeLine ∧ Nx (upd H4 D (.lst (acc ++ [y]))) else Nx H3) := by
  have nS : D ∉ c.S := fun z => r.srcNow.there D z hD
  have h0 : c.H0 D = none := by
    cases q : c.H0 D with
    | none => rfl
    | some o => rw [r.ext.st D o nS q] at hD; cases hD
  have hos : ∀ i ∈ vs, ∀ b, os[i]? ≠ some (some b) := fun i m b e => by
    obtain ⟨i', s0, o0, g1, g1', g2, g3, _⟩ := r.ownAt (List.mem_of_getElem? e)
    have ei := r.uniq _ _ _ g3 e
    subst ei
    have := hv i' m
    rw [getS_of g1, noOw_own g1'] at this
    cases this
  have rD := (r.hide (o := .lst []) (H' := upd H1 D (.lst [])) (Ext.of (same_new hD)) hD upd_same own_lst).wipe vs hv
  refine ⟨fun i m H => ∃ acc out, H D = some (.lst acc) ∧ DxAll c.K (hid (OO { c with Oc := D :: c.Oc } os) H) acc out ∧ R { c with Oc := D :: c.Oc } (wipeD sd vs) os (wipe σ vs) H ∧ Ext c.S H1 H ∧
      lcW g t we (wipeD sd vs) (ds.drop i) (fun rest => ∀ v H', Ext c.S H1 H' → RvR X.K (OO c os) H1 H' v (.fr (out ++ rest)) → Q v H') ∧ m = ds.length - i ∧ i ≤ ds.length ∧ acc.length ≤ i,
    ⟨_, [], [], upd_same, .nil, rD, Ext.of (same_new hD), q, rfl, Nat.zero_le _, Nat.le_refl _⟩, ?_⟩
  rintro i m H ⟨acc, out, hDa, dacc, rw', x1, q, rfl, hi, hl⟩
  have ok := hJ H x1
  by_cases hlt : i < ds.length
  · have eg := List.getElem?_eq_getElem hlt
    obtain ⟨go, yl⟩ := ok.1 i _ eg
    rw [List.drop_eq_getElem_cons hlt] at q
    refine .inr ⟨go, fun H' => ∃ acc out, H' D = some (.lst acc) ∧ DxAll c.K (hid (OO { c with Oc := D :: c.Oc } os) H') acc out ∧ R { c with Oc := D :: c.Oc } (wipeD sd vs) os (wipe σ vs) H' ∧ Ext c.S H1 H' ∧
      lcW g t we (wipeD sd vs) (ds.drop (i + 1)) (fun rest => ∀ v H', Ext c.S H1 H' → RvR X.K (OO c os) H1 H' v (.fr (out ++ rest)) → Q v H') ∧ acc.length ≤ i + 1,
      fun H' ⟨acc, out, e1, e2, e3, e4, e5, e6⟩ => ⟨ds.length - (i + 1), by omega, acc, out, e1, e2, e3, e4, e5, rfl, hlt, e6⟩, fun x H' y => ?_⟩
    obtain ⟨rfl, dx⟩ := yl x H' y
    refine ⟨{ c with Oc := D :: c.Oc }, wipeD sd vs, os, ds[i], hk, rw', by rw [← hk]; exact dx, hg _ _ _ _ (fun s k σ2 os2 r2 b2 => ⟨?_, ?_⟩) q⟩
    · rw [wipe_but b2 hsub, wipe_idem]
    · refine ⟨{ c with Oc := D :: c.Oc }, s, os2, hk, r2, ht _ _ _ (fun b kb H3 x3 => ?_) k⟩
      cases b with
      | false =>
        show ∃ acc out, _
        exact ⟨acc, out, x3.st D _ nS hDa, DxAll.grow (S := c.S) rw'.sO x3 dacc, rw'.grow x3, x1.trans x3, kb, by omega⟩
      | true =>
        refine ⟨{ c with Oc := D :: c.Oc }, s, os2, hk, r2.grow x3, he _ _ _ (fun z kz y H4 x4 rv => ?_) kb⟩
        have x34 := x3.trans x4
        have a4 := x34.st D _ nS hDa
        refine ⟨acc, a4, by omega, acc ++ [y], out ++ [z.dat], upd_same, ?_, (rw'.grow x34).updO List.mem_cons_self nS h0 own_lst, ext_upd (x1.trans x34) hD nS, ?_, by rw [List.length_append]; show acc.length + 1 ≤ i + 1; omega⟩
        · rw [hid_upd (mem_OO.mpr (.inl List.mem_cons_self))]
          refine (DxAll.grow (S := c.S) rw'.sO x34 dacc).app (.cons ?_ .nil)
          have dz := RvR.cl rv fun b m => (r2.grow x3).there m
          rw [hk]
          refine Dx.same (hid_same (fun _ _ _ h => h) fun b m => .inl ?_) _ _ dz
          rcases mem_OO.mp m with z | z
          · exact mem_OO.mpr (.inl z)
          · obtain ⟨j, hj, ej⟩ := List.getElem_of_mem z
            have e1 : os[j]? = some (some b) := by rw [List.getElem?_eq_getElem hj, ej]
            have nj : j ∉ is := fun mi => hos j (hsub j mi) b e1
            exact mem_OO.mpr (.inr (List.mem_of_getElem? ((b2.2 j nj).2.trans e1)))
        · refine lcW_mo hg ht he _ _ _ _ (fun rest k => ?_) kz
          rw [List.append_assoc]
          exact k
  · have e : i = ds.length := by omega
    subst e
    rw [List.drop_length] at q
    refine .inl ⟨ok.2 _ (Nat.le_refl _), ?_⟩
    have q : ∀ v H', Ext c.S H1 H' → RvR X.K (OO c os) H1 H' v (.fr (out ++ [])) → Q v H' := q
    rw [List.append_nil] at q
    exact q _ H x1 ⟨D, acc, rfl, hD, hDa, by rw [← hk]; exact dacc⟩
end
end DL

set_option Elab.async false
set_option linter.all false
set_option maxRecDepth 100000
set_option maxHeartbeats 4000000
/-! comprehensions as expressions; a def by its body; the law's end -/
namespace DL
open PySem PySem.Spec PyProof.Rows L2
variable [Tb]
section
variable {X : Cx} {a b e tg iter elt : Expr} {ifs : List Expr} {pos p : Pos} {g : WG} {t : WB} {we : WR} {is : List Nat} {scope : Scope} {own : List (Str × Nat)}
def okVs (sd : SD) (vs : List Nat) : Bool := vs.all fun i => noOw (getS sd i)
theorem okVs_all {sd : SD} {vs : List Nat} (h : okVs sd vs = true) : ∀ i ∈ vs, noOw (getS sd i) = true := List.all_eq_true.mp h
/-- a comprehension, by its parts -/
structure EvC (X : Cx) (elt tg iter : Expr) (ifs : List Expr) (scope : Scope) (w : WR) : Prop where
  ex : ∃ (own : List (Str × Nat)) (wi : TI) (g : TG) (tt : TT) (te : TE), PI X tg iter wi ∧ BlkOk X.N X.env.scope scope own ∧
    (∀ (s : Shared) (H : Hp) (C : Addr) (cl : List (Str × Addr)) (fp : List Addr), PG (X.blk s H scope (compEnvC scope cl C X.env) fp) tg g) ∧
    (∀ (s : Shared) (H : Hp) (C : Addr) (cl : List (Str × Addr)) (fp : List Addr), PTs (X.blk s H scope (compEnvC scope cl C X.env) fp) ifs tt) ∧
    (∀ (s : Shared) (H : Hp) (C : Addr) (cl : List (Str × Addr)) (fp : List Addr), PE (X.blk s H scope (compEnvC scope cl C X.env) fp) elt te) ∧
    (∀ x, foldedSetIterable iter X.env x = pure x) ∧ ∀ σ H Q, tR X.K w σ H Q → tLc wi g tt te (own.map (·.2)) σ H Q
  mo : ∀ sd (Q Q' : RV → Prop), (∀ r, Q r → Q' r) → w sd Q → w sd Q'
theorem EvC.rv {w : WR} (h : EvC X elt tg iter ifs scope w) (hc : X.calm = true) (hN : X.N.Nodup) : EvR X (.ListComp elt [⟨tg, iter, ifs, 0⟩] scope pos) w where
  pe := by
    obtain ⟨own, wi, g, tt, te, h1, h2, h3, h4, h5, h6, h7⟩ := h.ex
    exact PE.weak (pe_lc hc hN h1 h2 h3 h4 h5 h6) h7
  mo := h.mo
/-- name = a comprehension, in one row -/
theorem evs_setLC {w : WR} {py : Pos} {spos : Pos} {y : Str} (i : Nat) (h : EvC X elt tg iter ifs scope w) (hc : X.calm = true) (hN : X.N.Nodup) (hy : X.N[i]? = some y := by rfl) (hyl : X.env.scope.names.lookup y = some .local := by rfl)
    (hsw : swapsWith (.ListComp elt [⟨tg, iter, ifs, 0⟩] scope pos) (some (.Name y py)) spos.line X.env = pure true := by exact sw_true rfl rfl rfl (by decide +kernel)) :
    EvS X (.Assign [.Name y py] (.ListComp elt [⟨tg, iter, ifs, 0⟩] scope pos) spos) (fun E sd => w sd fun z => E.nx (sd.set i z.sv)) where
  ps := by
    obtain ⟨own, wi, g, tt, te, h1, h2, h3, h4, h5, h6, h7⟩ := h.ex
    refine PS.weak (ps_setLc hc hN hy hyl hsw h1 h2 h3 h4 h5 h6) fun D σ H ⟨c, sd, os, E, hk, r, er, q⟩ => ?_
    refine h7 σ H _ ⟨c, sd, os, hk, r, h.mo _ _ _ (fun z kz v H' x rv => ?_) q⟩
    obtain ⟨oa, r'⟩ := R.set (i := i) r x (by rw [hk]; exact rv)
    exact er.nx _ _ _ _ r' kz
  mo := fun E E' sd h1 _ _ _ q => h.mo _ _ _ (fun z y => h1 _ y) q
/-- [elt for tg in iter if ..] over a list or a tuple -/
theorem evc_lc {wi : WD} (h : Ev .sh X iter wi) (ok : BlkOk X.N X.env.scope scope own)
    (hg : ∀ (s : Shared) (H : Hp) (C : Addr) (cl : List (Str × Addr)) (fp : List Addr), EvG (X.blk s H scope (compEnvC scope cl C X.env) fp) tg is g)
    (ht : ∀ (s : Shared) (H : Hp) (C : Addr) (cl : List (Str × Addr)) (fp : List Addr), EvI (X.blk s H scope (compEnvC scope cl C X.env) fp) ifs t)
    (he : ∀ (s : Shared) (H : Hp) (C : Addr) (cl : List (Str × Addr)) (fp : List Addr), EvR (X.blk s H scope (compEnvC scope cl C X.env) fp) elt we)
    (hsub : ∀ i ∈ is, i ∈ own.map (·.2) := by decide) (hs : ∀ x, foldedSetIterable iter X.env x = pure x := by intro _; rfl) :
    EvC X elt tg iter ifs scope (fun sd Q => wi sd fun d => dItems d fun ds =>
      (okVs sd (own.map (·.2)) = true ∧ ds.length ≤ sizeLine) ∧ lcW g t we (wipeD sd (own.map (·.2))) ds fun out => Q (.fr out)) where
  ex := ⟨own, _, _, _, _, pi_seq h.pe, ok, fun s H C cl fp => (hg s H C cl fp).pg, fun s H C cl fp => (ht s H C cl fp).pt, fun s H C cl fp => (he s H C cl fp).pe, hs,
    fun σ H Q ⟨c, sd, os, hk, r, q⟩ => by
    have hg' := (hg X.s_0 X.H_0 0 [] []).mo
    have ht' := (ht X.s_0 X.H_0 0 [] []).mo
    have he' := (he X.s_0 X.H_0 0 [] []).mo
    refine ⟨c, sd, os, hk, r, h.mo _ _ _ (fun d kz v H1 x1 dm => ?_) q⟩
    have rr := r.grow x1
    cases d with
    | list ds =>
      obtain ⟨⟨k1, k2⟩, k3⟩ := kz
      obtain ⟨a, xs, rfl, d1, d2⟩ := dm
      refine .inl ⟨a, xs, rfl, .inl (.inl (hid_some d1).2), fun D hD => lc_run hg' ht' he' hk rr hD (okVs_all k1) hsub (fun H2 x2 => ?_) k2
        (lcW_mo hg' ht' he' _ _ _ _ (fun out kq v' H' x' rv => kq v' H' (x1.trans x') (RvR.from r.sO (fun b m => rr.there m) x1 rv)) k3)⟩
      rw [hk]
      refine it_l (x2.st a _ (hid_some d1).1 (hid_some d1).2) (DxAll.same (hid_same (fun b o n e => x2.st b o (fun z => n (r.sO b z)) e) fun b m => ?_) _ _ d2)
      rcases mem_OO.mp m with z | z
      · rcases List.mem_cons.mp z with rfl | z
        · exact .inr hD
        · exact .inl (mem_OO.mpr (.inl z))
      · exact .inl (mem_OO.mpr (.inr z))
    | tuple ds =>
      obtain ⟨⟨k1, k2⟩, k3⟩ := kz
      obtain ⟨a, xs, rfl, d1, d2⟩ := shTup dm
      refine .inr ⟨a, xs, rfl, SqT.same hid_sub d1, fun D hD => lc_run hg' ht' he' hk rr hD (okVs_all k1) hsub (fun H2 x2 => ?_) k2
        (lcW_mo hg' ht' he' _ _ _ _ (fun out kq v' H' x' rv => kq v' H' (x1.trans x') (RvR.from r.sO (fun b m => rr.there m) x1 rv)) k3)⟩
      rw [hk]
      have sub : Same (hid (OO c os) H1) (hid (OO { c with Oc := D :: c.Oc } os) H2) := hid_same (fun b o n e => x2.st b o (fun z => n (r.sO b z)) e) fun b m => by
        rcases mem_OO.mp m with z | z
        · rcases List.mem_cons.mp z with rfl | z
          · exact .inr hD
          · exact .inl (mem_OO.mpr (.inl z))
        · exact .inl (mem_OO.mpr (.inr z))
      exact it_t (SqT.same hid_sub (SqT.same sub d1)) (DxAll.same sub _ _ d2)
    | _ => exact kz.elim⟩
  mo := fun sd Q Q' k q => h.mo _ _ _ (fun d z => dItems_mo (fun ds z => ⟨z.1, lcW_mo (hg X.s_0 X.H_0 0 [] []).mo (ht X.s_0 X.H_0 0 [] []).mo (he X.s_0 X.H_0 0 [] []).mo _ _ _ _ (fun r y => k _ y) z.2⟩) z) q
/-- .. over range(a) -/
theorem evc_lcR {wi : WD} (h : Ev .sh X a wi) (ok : BlkOk X.N X.env.scope scope own) (hm : X.mg "range" = none)
    (hg : ∀ (s : Shared) (H : Hp) (C : Addr) (cl : List (Str × Addr)) (fp : List Addr), EvG (X.blk s H scope (compEnvC scope cl C X.env) fp) tg is g)
    (ht : ∀ (s : Shared) (H : Hp) (C : Addr) (cl : List (Str × Addr)) (fp : List Addr), EvI (X.blk s H scope (compEnvC scope cl C X.env) fp) ifs t)
    (he : ∀ (s : Shared) (H : Hp) (C : Addr) (cl : List (Str × Addr)) (fp : List Addr), EvR (X.blk s H scope (compEnvC scope cl C X.env) fp) elt we)
    (hgl : Gl X "range" := by rfl) (hsub : ∀ i ∈ is, i ∈ own.map (·.2) := by decide) {pos2 : Pos}
    (h1 : starEach [a] X.env = (false, eval a X.env) :: starEach [] X.env := by rfl) (h2 : starEach [a] X.env = [(false, eval a X.env)] := by rfl)
    (hs : ∀ x, foldedSetIterable (.Call (.Name "range" p) [a] [] pos2) X.env x = pure x := by intro _; rfl) :
    EvC X elt tg (.Call (.Name "range" p) [a] [] pos2) ifs scope (fun sd Q => wi sd fun d => dInt1 d fun n =>
      (okVs sd (own.map (·.2)) = true ∧ n ≤ 1000000) ∧ lcW g t we (wipeD sd (own.map (·.2))) (rangeD 0 n.toNat) fun out => Q (.fr out)) where
  ex := ⟨own, _, _, _, _, pi_range1 hgl hm (pa_cons h.pe pa_nil h1) h2, ok, fun s H C cl fp => (hg s H C cl fp).pg, fun s H C cl fp => (ht s H C cl fp).pt, fun s H C cl fp => (he s H C cl fp).pe, hs,
    fun σ H Q ⟨c, sd, os, hk, r, q⟩ => by
    have hg' := (hg X.s_0 X.H_0 0 [] []).mo
    have ht' := (ht X.s_0 X.H_0 0 [] []).mo
    have he' := (he X.s_0 X.H_0 0 [] []).mo
    refine ⟨c, sd, os, hk, r, h.mo _ _ _ (fun d kz v H1 x1 dm => ?_) q⟩
    have rr := r.grow x1
    obtain ⟨n, rfl, ⟨q1, q2⟩, ⟨k1, k2⟩, k3⟩ := dInt1_get kz
    refine ⟨n, by rw [shInt dm], q1, q2, fun D hD => lc_run hg' ht' he' hk rr hD (okVs_all k1) hsub (fun H2 x2 => it_r) ?_
        (lcW_mo hg' ht' he' _ _ _ _ (fun out kq v' H' x' rv => kq v' H' (x1.trans x') (RvR.from r.sO (fun b m => rr.there m) x1 rv)) k3)⟩
    unfold rangeD
    rw [List.length_map, List.length_range, sizeLine_eq]
    omega⟩
  mo := fun sd Q Q' k q => h.mo _ _ _ (fun d z => dInt1_mo (fun ds z => ⟨z.1, lcW_mo (hg X.s_0 X.H_0 0 [] []).mo (ht X.s_0 X.H_0 0 [] []).mo (he X.s_0 X.H_0 0 [] []).mo _ _ _ _ (fun r y => k _ y) z.2⟩) z) q
end

/-! ### a def by its body -/
@[reducible] def AV.sv : AV → SV
  | .va d => .va d
  | .so => .so
  | .fn f => .fn f
def startD (n : Nat) (as : List AV) : SD := as.map AV.sv ++ List.replicate (n - as.length) .un
theorem start_slot {c : Cd} {O : List Addr} {H : Hp} {n : Nat} : ∀ {vs : List V} {as : List AV}, DAs .cl c.K c.S O H vs as → ∀ (i : Nat) (s : SV) (v : Option V),
    (as.map AV.sv ++ List.replicate n SV.un)[i]? = some s → (vs.map some ++ List.replicate n none)[i]? = some v → SlotR c O H s v none
  | _, _, .nil, i, s, v, h1, h2 => by
    simp only [List.map_nil, List.nil_append] at h1 h2
    have : s = .un := List.eq_of_mem_replicate (List.mem_of_getElem? h1)
    subst this
    rfl
  | _, _, .va h t, 0, s, v, h1, h2 => by
    cases h1
    cases h2
    exact ⟨rfl, _, rfl, h⟩
  | _, _, .so (x := x) (y := y) h t, 0, s, v, h1, h2 => by
    cases h1
    cases h2
    exact ⟨rfl, x, y, h, rfl⟩
  | _, _, .va h t, i + 1, s, v, h1, h2 => start_slot t i s v (by simpa using h1) (by simpa using h2)
  | _, _, .fn t, 0, s, v, h1, h2 => by
    cases h1
    cases h2
    exact ⟨rfl, rfl⟩
  | _, _, .fn t, i + 1, s, v, h1, h2 => start_slot t i s v (by simpa using h1) (by simpa using h2)
  | _, _, .so h t, i + 1, s, v, h1, h2 => start_slot t i s v (by simpa using h1) (by simpa using h2)
section
variable {P : Program} {w : World} {K : PySem.W.Frag} {mg : Str → Option Value} {base : Heap}
def endE (Q : RV → Prop) : ED := { nx := fun _ => Q (.va .none), rt := Q, bk := fun _ => False, ct := fun _ => False }
theorem fn_dataC {k : Nat} {x qual : Str} {st : Stmt} {f : Addr} {fd : FuncData} {N ps : List Str} {fs : FSp} {wb : WS}
    (F : Fun K x qual st f fd) (S : FnScope N ps (defScope st))
    (body : ∀ (cdv : Value), fd.code = cdv → ∀ (A : Around) (outer : List Env) (s : Shared) (H : Hp) (E : XK), RmG k (A.deeper (envOfC qual (defScope st) s.heap.objs.size f cdv)) →
      EvB (cxOf CX0 P w K mg base N qual (defScope st) f cdv A outer s H E).nox (defBody st) wb)
    (run : ∀ as Q, as.length = ps.length → fs as Q → wb (endE Q) (startD N.length as)) : FnG P w K mg base CX0 (k + 1) f fd ps (PSp K ps.length fs) := by
  refine fn_bodyC F S (fun vs H Q E ⟨S', Oc, as, h1, h2, h3, h4, h5, h6⟩ => h4.len.trans h5) fun cdv hcd A outer s H vs Q E hr hsp => ?_
  have B := body cdv hcd A outer s H E hr
  refine ⟨_, B.ps.nox, ?_⟩
  obtain ⟨S', Oc, as, h1, h2, h3, h4, h5, h6⟩ := hsp
  have hl := h4.len
  refine ⟨⟨K, H, Oc, S', []⟩, startD N.length as, List.replicate (startD N.length as).length none, endE (fun r => ∀ v H', Ext S' H H' → RvR K Oc H H' v r → Q v H'), rfl, ?_, ?_, run as _ h5 h6⟩
  · have e2 : L2.start N vs = vs.map some ++ List.replicate (N.length - as.length) none := by
      unfold L2.start
      rw [hl]
    have hOO : OO ⟨K, H, Oc, S', []⟩ (List.replicate (startD N.length as).length none) = Oc := by
      unfold OO
      have : (List.replicate (startD N.length as).length (none : Option Addr)).filterMap id = [] := by
        apply List.filterMap_eq_nil_iff.mpr
        intro z m
        rw [List.eq_of_mem_replicate m]
        rfl
      rw [this, List.append_nil]
    have no : ∀ (a : Addr), some a ∉ List.replicate (startD N.length as).length (none : Option Addr) := fun a m => by
      have := List.eq_of_mem_replicate m
      cases this
    refine ⟨Ext.refl, h1, h2, h3, ?_, ?_, fun i s v oa g1 g2 g3 => ?_, fun i j a g1 _ => absurd (List.mem_of_getElem? g1) (no a), fun p m => (by cases m), fun a m => absurd m (no a)⟩
    · rw [e2]
      unfold startD
      simp [hl]
    · rw [e2]
      unfold startD
      simp [hl]
    · rw [hOO]
      have e3 : oa = none := List.eq_of_mem_replicate (List.mem_of_getElem? g3)
      subst e3
      rw [e2] at g2
      exact start_slot (c := ⟨K, H, Oc, S', []⟩) h4 i s v g1 g2
  · exact ⟨fun sd os σ H' r q => q .non H' r.ext .non, fun _ _ _ _ _ q => q.elim, fun _ _ _ _ _ q => q.elim, fun z v H' x rv q => q v H' x rv⟩
theorem fn_data {k : Nat} {x qual : Str} {st : Stmt} {f : Addr} {fd : FuncData} {N ps : List Str} {fs : FSp} {wb : WS}
    (F : Fun K x qual st f fd) (S : FnScope N ps (defScope st))
    (body : ∀ (cdv : Value) (A : Around) (outer : List Env) (s : Shared) (H : Hp) (E : XK), RmG k (A.deeper (envOfC qual (defScope st) s.heap.objs.size f cdv)) →
      EvB (cxOf CX0 P w K mg base N qual (defScope st) f cdv A outer s H E).nox (defBody st) wb)
    (run : ∀ as Q, as.length = ps.length → fs as Q → wb (endE Q) (startD N.length as)) : FnG P w K mg base CX0 (k + 1) f fd ps (PSp K ps.length fs) :=
  fn_dataC F S (fun cdv _ => body cdv) run
end
end DL

set_option Elab.async false
set_option linter.all false
set_option maxRecDepth 100000
set_option maxHeartbeats 4000000
/-! isinstance; [::-1]; ghosts; the law's end -/
namespace DL
open PySem PySem.Spec PyProof.Rows L2
variable [Tb]
/-! ### isinstance -/
def tyN : PyData → String
  | .none => "NoneType"
  | .bool _ => "bool"
  | .int _ => "int"
  | .str _ => "str"
  | .list _ => "list"
  | .tuple _ => "tuple"
  | .dict _ => "dict"
theorem Dx.ty {K : PySem.W.Frag} {H : Hp} {v : V} {d : PyData} (h : Dx K H v d) : TyX K H v (.type (tyN d)) := by
  cases h with
  | non => exact .base .non
  | bl b => exact .base (.bl b)
  | int i => exact .base (.int i)
  | str x => exact .base (.str x)
  | lst h1 h2 => exact .base (.lst h1)
  | tup h1 h2 =>
    rcases h1 with (h | ⟨o, h⟩) | ⟨o, its, n, h, hc, _⟩
    · exact .base (.tup h)
    · exact .fTuple h
    · exact .kTuple h hc
  | dct h1 h2 h3 => obtain ⟨kvs, rfl, _⟩ := h2; exact .base (.dK h1)
section
variable {X : Cx} {e : Expr} {pos p p1 p2 : Pos} {x : Str}
def wIsi (T : String) (w : WD) : WR := fun sd Q => w sd fun d => match kitB (tyN d) T with
  | some b => Q (.va (.bool b))
  | none => False
/-- isinstance(e, T), T a built-in class -/
theorem evr_isi {w : WD} (T : String) (tx : Str) (h : Ev .bo X e w) (hm : X.mg "isinstance" = none) (hmt : X.mg tx = none) (hv : bootBuiltins "isinstance" = some (.builtin "isinstance")) (hvt : bootBuiltins tx = some (.type T))
    (hg : Gl X "isinstance" := by rfl) (hgt : Gl X tx := by rfl) (hn : tx ≠ "__name__" := by decide) (hdb : (tx == ("__debug__" : Str)) = false := by decide)
    (h1 : starEach [e, .Name tx p2] X.env = (false, eval e X.env) :: starEach [.Name tx p2] X.env := by rfl) (h2 : starEach [.Name tx p2] X.env = (false, eval (.Name tx p2) X.env) :: starEach [] X.env := by rfl)
    (hpl : (backTo pos (starEach [.Name tx p2] X.env)).any (·.1) = false := by rfl) :
    EvR X (.Call (.Name "isinstance" p) [e, .Name tx p2] [] pos) (wIsi T w) where
  pe := PE.weak (pe_callB call_isi hg hm hv (pa_cons h.pe (pa_cons (pe_bltn hgt hmt hvt (v := V.ty T) rfl hn hdb) pa_nil h2) h1) (he := h1) (hpl := hpl)) fun σ H Q ⟨c, sd, os, hk, r, q⟩ =>
    ⟨c, sd, os, hk, r, h.mo _ _ _ (fun d k v H1 x1 dm => by
      cases e : kitB (tyN d) T with
      | none => rw [e] at k; exact k.elim
      | some b =>
        rw [e] at k
        exact ⟨v, V.ty T, .type (tyN d), .type T, b, rfl, .ty T, Dx.ty (Dx.same hid_sub _ _ dm), kit_ty e, k _ H1 x1 (.bl b)⟩) q⟩
  mo := fun sd Q Q' k q => h.mo _ _ _ (fun d z => by
    cases e : kitB (tyN d) T with
    | none => rw [e] at z; exact z.elim
    | some b => rw [e] at z; exact k _ z) q
/-! ### [::-1] -/
def wBack (w : WD) : WR := fun sd Q => w sd fun d => match d with
  | .list ds => Q (.fr ds.reverse)
  | .tuple ds => Q (.va (.tuple ds.reverse))
  | _ => False
theorem evr_back {w : WD} {k : Nat} {p3 : Pos} (h : Ev .sh X e w) : EvR X (.Subscript e (.Slice none none (some (.UnaryOp .USub (.Constant (.int 1) k p1) p2)) p3) pos) (wBack w) where
  pe := PE.weak (pe_back h.pe) fun σ H Q ⟨c, sd, os, hk, r, q⟩ => ⟨c, sd, os, hk, r, h.mo _ _ _ (fun d k v H1 x1 dm => by
    have ht : ∀ a ∈ OO c os, H1 a ≠ none := fun a m => (r.grow x1).there m
    cases d with
    | list ds =>
      obtain ⟨a, us, rfl, h1, h2⟩ := dm
      exact .inr ⟨a, us, rfl, .inl (.inl (hid_some h1).2), fun p hp => k _ _ (x1.trans (Ext.of (same_new hp))) (RvR.from r.sO ht x1 (rv_lst hp h2.rev))⟩
    | tuple ds =>
      obtain ⟨a, us, rfl, h1, h2⟩ := shTup dm
      exact .inl ⟨a, us, rfl, SqT.same hid_sub h1, fun p hp => k _ _ (x1.trans (Ext.of (same_new hp))) (rv_tup hp ht h2.rev)⟩
    | _ => exact k.elim) q⟩
  mo := fun sd Q Q' k q => h.mo _ _ _ (fun d z => by
    cases d with
    | list ds => exact k _ z
    | tuple ds => exact k _ z
    | _ => exact z.elim) q
/-! ### a list of one's own is from now on nobody's -/
def frzD (i : Nat) (sd : SD) : SD := match getS sd i with
  | .ow ds => sd.set i (.va (.list ds))
  | .od es => sd.set i (.va (.dict es))
  | _ => sd
theorem evb_frz {sts : List Stmt} {w : WS} (i : Nat) (h : EvB X sts w) : EvB X sts (fun E sd => w E (frzD i sd)) where
  ps := PSs.weak h.ps fun D σ H ⟨c, sd, os, E, hk, r, er, q⟩ => by
    have q : w E (frzD i sd) := q
    unfold frzD at q
    cases es : getS sd i with
    | ow ds =>
      rw [es] at q
      obtain ⟨v, _, r', _⟩ := r.frz es
      exact ⟨c, _, _, E, hk, r', er, q⟩
    | un => rw [es] at q; exact ⟨c, sd, os, E, hk, r, er, q⟩
    | va d => rw [es] at q; exact ⟨c, sd, os, E, hk, r, er, q⟩
    | so => rw [es] at q; exact ⟨c, sd, os, E, hk, r, er, q⟩
    | fn _ => rw [es] at q; exact ⟨c, sd, os, E, hk, r, er, q⟩
    | od ds =>
      rw [es] at q
      obtain ⟨v, _, r', _⟩ := r.frzO es
      exact ⟨c, _, _, E, hk, r', er, q⟩
  mo := fun E E' sd h1 h2 h3 h4 q => h.mo _ _ _ h1 h2 h3 h4 q
end

/-! ### the law's end -/
theorem lawG_call {P : Program} {w : World} {K : PySem.W.Frag} {mg mb : Str → Option Value} {k : Nat} {fa a : Addr} {fd : FuncData} {x : Str} {sp : Sp} {s₁ : Shared} {vs : List Value} {ns : List Int}
    (KX : K.In s₁.heap) (hns : s₁.heap.Ns mainGlobals mg) (hb : s₁.heap.Ns builtinsNs mb) (hbb : ∀ x : Str, x ≠ "__name__" → mb x = bootBuiltins x) (hlim : s₁.heap.NoLimit) (hg : s₁.gens = #[])
    (ha : s₁.heap.get? a = some { cls := .type "list", data := .seq vs.toArray }) (hi : IntsAre vs ns) (hl : ns.length ≤ sizeLine) (hr : RmG k callerA)
    (F : ∀ base : Heap, K.In base → base.Ns mainGlobals mg → FnG P w K mg base CX0 k fa fd [x] sp) (hbind : ∀ (s : Shared) (u : Value), BindsTo s fd ⟨[u], []⟩ [(x, u)])
    (hsp : ∀ H : Hp, Only H → SqL K H a (ns.map V.int) → sp [.ref a] H (fun v _ => v = .bl true) fun _ _ _ => False) :
    codeAny (model P w) callerA (.call (.ref fa) ⟨[.ref a], []⟩) (fun r s' => r = .ok (.ret (.bool true)) ∧ OldK s₁.heap s'.heap ∧ s'.os = s₁.os ∧ AllBare s'.gens) s₁ := by
  have rv : Vals (ns.map V.int) vs := vals_ints hi
  have lv := hi.length
  -- over an abstract heap that tracks at most the script
  suffices core : ∃ H : Hp, Only H ∧ SqL K H a (ns.map V.int) ∧ HOk P w H s₁.heap ∧ (∀ b, H b ≠ none → b = a ∧ K.lookup a = none) by
    obtain ⟨H, hO, hS, hok, hA⟩ := core
    have out : ∀ {b : Addr} {o : Obj}, s₁.heap.get? b = some o → H b = none → (hidT s₁.heap H).get? b = some o := hidT_get
    have dicts : ∀ {b : Addr} {o : Obj} {es : Array DictEntry} {ep : Nat}, s₁.heap.get? b = some o → o.data = .dict es ep → H b = none := by
      intro b o es ep e d
      cases q : H b with
      | none => rfl
      | some u =>
        obtain ⟨rfl, _⟩ := hA b (by rw [q]; exact Option.some_ne_none u)
        rw [ha] at e
        cases e
        cases d
    have names : ∀ {b : Addr} {m : Str → Option Value}, s₁.heap.Ns b m → (hidT s₁.heap H).Ns b m := by
      rintro b m ⟨o, es, ep, e, d, r⟩
      exact ⟨o, es, ep, out e (dicts e d), d, r⟩
    have inK : K.In (hidT s₁.heap H) := by
      intro b o e
      apply out (KX b o e)
      cases q : H b with
      | none => rfl
      | some u =>
        obtain ⟨rfl, n⟩ := hA b (by rw [q]; exact Option.some_ne_none u)
        rw [n] at e
        cases e
    obtain ⟨mc, l1, l2⟩ := hlim
    have e0 : Env0 P w K mg (hidT s₁.heap H) callerA [] s₁ H :=
      ⟨rfl, ⟨inK, names hns, ⟨mb, names hb, hbb⟩, mc, names l1, l2⟩, fun b o e => of_hidT e, Nat.le_of_eq (hidT_size _ _), trivial, fun b m => (by cases m), hok, .of_eq hg⟩
    apply codeAny_mono ((F _ inK (names hns)).run callerA [] s₁ H ⟨[.ref a], []⟩ [.ref a] [.ref a] _ _ hr e0 (hbind s₁ (.ref a)) (.cons rfl .nil) (hsp H hO hS))
    intro r s' h
    match r, h with
    | .error _, h => exact h.elim
    | .ok .next, h => exact h.elim
    | .ok .brk, h => exact h.elim
    | .ok .cont, h => exact h.elim
    | .ok (.ret u), ⟨v, H', os, bare, un, hok', r', q⟩ =>
      have q' : v = .bl true := q
      subst q'
      cases r'
      refine ⟨rfl, OldK.of_keep fun b o e => ?_, os, bare⟩
      cases q : H b with
      | none => exact un.keep b o e q (fun z => by cases z) (fun z => by cases z)
      | some u =>
        rcases hO b with z | ⟨ob, xs, z⟩
        · rw [q] at z; cases z
        · obtain ⟨e1, _⟩ := hok b _ z
          obtain ⟨e2, _⟩ := hok' b _ (un.frzs b ob _ z)
          rw [e] at e1
          cases e1
          exact e2
  cases hk : K.lookup a with
  | some o =>
    -- the script is one of the module's own objects
    have e := KX a o hk
    rw [ha] at e
    cases e
    exact ⟨fun _ => none, fun _ => .inl rfl, .inr ⟨_, vs.toArray, _, hk, rfl, rfl, rfl, by rw [List.size_toArray, lv]; exact hl, by simpa using rv⟩, fun b u z => (by cases z), fun b z => absurd rfl z⟩
  | none =>
    refine ⟨fun b => if b = a then some (.frz { cls := .type "list", data := .seq vs.toArray } (.lst (ns.map V.int))) else none, fun b => ?_, .inl (.inr ⟨_, if_pos rfl⟩), fun b u z => ?_, fun b z => ?_⟩
    · by_cases e : b = a
      · exact .inr ⟨_, _, if_pos e⟩
      · exact .inl (if_neg e)
    · by_cases e : b = a
      · have z' := (if_pos e).symm.trans z
        cases z'
        subst e
        exact ⟨ha, by rw [List.length_map]; exact hl, vs, _, rv, ha⟩
      · have z' := (if_neg e).symm.trans z
        cases z'
    · by_cases e : b = a
      · exact ⟨e, rfl⟩
      · exact absurd (if_neg e) z
/-- the goal that the head leaves -/
theorem walkG {l : PySem.W.OpenLaw} {n k : Nat} {q : Program} {loose : List Str} {XP : (Str → Option Value) → Heap → Prop} {YP : World → Heap → Prop} {d : DefRec} {K : Params → PySem.W.Frag} {sp : World → Sp} {x : Str}
    (hn : l.most = some n) (hn2 : n ≤ sizeLine) (hdf : d.params.defaults = []) (hr : RmG k callerA) (hY : ∀ (w : World) (h : Heap), YP w h → (K w.params).In h)
    (F : ∀ (w : World) (mg : Str → Option Value) (fa : Addr) (h : Heap), (K w.params).In h → h.Ns mainGlobals mg → mg d.name = some (.ref fa) →
      ∃ fd : FuncData, (∀ (s : Shared) (u : Value), BindsTo s fd ⟨[u], []⟩ [(x, u)]) ∧
        ∀ base : Heap, (K w.params).In base → base.Ns mainGlobals mg → FnG l.prog w (K w.params) mg base CX0 k fa fd [x] (sp w))
    (hsp : ∀ (w : World) (H : Hp) (a : Addr) (ns : List Int), ns.length ≤ n → Only H → SqL (K w.params) H a (ns.map V.int) → sp w [.ref a] H (fun v _ => v = .bl true) fun _ _ _ => False) :
    PySem.W.WalkO q loose XP YP l.row.toRowW d [] (fun f vs => PySem.call f vs) := by
  apply Att.attach_call hn hdf
  intro w s₀ s₁ mg mb fa o pm cd doc a vs ns G Y ho hd hcd hmg hobj hints hlen hg
  have inK := hY w _ Y
  obtain ⟨fd, hb, hF⟩ := F w mg fa _ inK G.T.g hmg
  exact lawG_call inK G.T.g G.T.b G.T.builtins G.T.nolimit hg hobj hints (Nat.le_trans hlen hn2) hr hF hb fun H hO hS => hsp w H a ns hlen hO hS
end DL

set_option Elab.async false
set_option linter.all false
set_option maxRecDepth 100000
set_option maxHeartbeats 4000000
/-! what the two defs that draw promise -/
namespace DL
open PySem PySem.Spec PyProof.Rows L2
variable [Tb]
def kvs4 (c : Addr) (l m t : Int) : List (Key × V) := [(.inr "cells", .ref c), (.inr "left", .int l), (.inr "mixed", .int m), (.inr "turn", .int t)]
abbrev kyC : Key := .inr ("cells" : Str)
abbrev kyL : Key := .inr ("left" : Str)
abbrev kyM : Key := .inr ("mixed" : Str)
abbrev kyT : Key := .inr ("turn" : Str)
theorem nCL : ¬ kyC = kyL := by decide +kernel
theorem nCM : ¬ kyC = kyM := by decide +kernel
theorem nCT : ¬ kyC = kyT := by decide +kernel
theorem nLM : ¬ kyL = kyM := by decide +kernel
theorem nLT : ¬ kyL = kyT := by decide +kernel
theorem nMT : ¬ kyM = kyT := by decide +kernel
theorem nML : ¬ kyM = kyL := by decide +kernel
theorem nTL : ¬ kyT = kyL := by decide +kernel
section
variable {c : Addr} {l m t x : Int}
theorem k4_cells : valV (kvs4 c l m t) kyC = some (.ref c) := valV_pos rfl
theorem k4_left : valV (kvs4 c l m t) kyL = some (.int l) := (valV_neg nCL).trans (valV_pos rfl)
theorem k4_mixed : valV (kvs4 c l m t) kyM = some (.int m) := (valV_neg nCM).trans ((valV_neg nLM).trans (valV_pos rfl))
theorem k4_turn : valV (kvs4 c l m t) kyT = some (.int t) := (valV_neg nCT).trans ((valV_neg nLT).trans ((valV_neg nMT).trans (valV_pos rfl)))
theorem k4_putL : putK (kvs4 c l m t) kyL (.int x) = kvs4 c x m t := by
  have e : (kvs4 c l m t).any (fun kv => decide (kv.1 = kyL)) = true := by
    rw [valV_any, k4_left]
    rfl
  unfold putK
  rw [if_pos e]
  show [(if kyC = kyL then (kyC, V.int x) else (kyC, V.ref c)), (if kyL = kyL then (kyL, V.int x) else (kyL, V.int l)), (if kyM = kyL then (kyM, V.int x) else (kyM, V.int m)), (if kyT = kyL then (kyT, V.int x) else (kyT, V.int t))] = _
  rw [if_neg nCL, if_pos rfl, if_neg nML, if_neg nTL]
  rfl
theorem k4_putT : putK (kvs4 c l m t) kyT (.int x) = kvs4 c l m x := by
  have e : (kvs4 c l m t).any (fun kv => decide (kv.1 = kyT)) = true := by
    rw [valV_any, k4_turn]
    rfl
  unfold putK
  rw [if_pos e]
  show [(if kyC = kyT then (kyC, V.int x) else (kyC, V.ref c)), (if kyL = kyT then (kyL, V.int x) else (kyL, V.int l)), (if kyM = kyT then (kyM, V.int x) else (kyM, V.int m)), (if kyT = kyT then (kyT, V.int x) else (kyT, V.int t))] = _
  rw [if_neg nCT, if_neg nLT, if_neg nMT, if_pos rfl]
  rfl
end
section
variable {H : Hp} {a c : Addr} {l m t x : Int}
theorem g4_cells (e : H a = some (.dK (kvs4 c l m t))) : DGet H a (.str "cells") (some (.ref c)) := by
  have g := DGet.k (k := kyC) e
  rw [k4_cells] at g
  exact g
theorem g4_left (e : H a = some (.dK (kvs4 c l m t))) : DGet H a (.str "left") (some (.int l)) := by
  have g := DGet.k (k := kyL) e
  rw [k4_left] at g
  exact g
theorem g4_mixed (e : H a = some (.dK (kvs4 c l m t))) : DGet H a (.str "mixed") (some (.int m)) := by
  have g := DGet.k (k := kyM) e
  rw [k4_mixed] at g
  exact g
theorem g4_turn (e : H a = some (.dK (kvs4 c l m t))) : DGet H a (.str "turn") (some (.int t)) := by
  have g := DGet.k (k := kyT) e
  rw [k4_turn] at g
  exact g
theorem p4_left (e : H a = some (.dK (kvs4 c l m t))) : DPut H a (.str "left") (.int x) (upd H a (.dK (kvs4 c x m t))) := by
  have g := DPut.k (k := kyL) (v := .int x) e (by show 4 < sizeLine; decide)
  rw [k4_putL] at g
  exact g
theorem p4_turn (e : H a = some (.dK (kvs4 c l m t))) : DPut H a (.str "turn") (.int x) (upd H a (.dK (kvs4 c l m x))) := by
  have g := DPut.k (k := kyT) (v := .int x) e (by show 4 < sizeLine; decide)
  rw [k4_putT] at g
  exact g
theorem merge4 : mergeK [] [(kyC, V.ref c), (kyL, V.int l), (kyM, V.int m), (kyT, V.int t)] = kvs4 c l m t := by
  unfold mergeK kvs4
  simp only [List.foldl_cons, List.foldl_nil]
  rw [putK_new (kvs := []) (k := kyC) _ valV_nil, List.nil_append]
  rw [putK_new (k := kyL) _ ((valV_neg nCL).trans valV_nil), List.cons_append, List.nil_append]
  rw [putK_new (k := kyM) _ ((valV_neg nCM).trans ((valV_neg nLM).trans valV_nil)), List.cons_append, List.cons_append, List.nil_append]
  rw [putK_new (k := kyT) _ ((valV_neg nCT).trans ((valV_neg nLT).trans ((valV_neg nMT).trans valV_nil)))]
  rfl
end
/-- where a def of one's own stands -/
structure Cal (K : PySem.W.Frag) (mg : Str → Option Value) (x : Str) (f : Addr) (fd : FuncData) (ps : List Str) : Prop where
  hm : mg x = some (.ref f)
  hk : PySem.W.keepIn K (.ref f) = true
  hb : Binds K fd ps []
/-- a number below the one asked for -/
def fsPick : FSp := fun as Q => match as with
  | [.so, .va (.int m)] => m < 1152921504606846976 ∧ ∀ r : Int, 0 ≤ r → (r < m ∨ r = 0) → Q (.va (.int r))
  | _ => False
theorem moPick : MoF fsPick := by
  intro as Q Q' k q
  unfold fsPick at q ⊢
  split at q
  · exact ⟨q.1, fun r h0 h1 => k _ (q.2 r h0 h1)⟩
  · exact q.elim
def spOpen (K : PySem.W.Frag) : Sp := fun vs H Q _ => ∃ (a : Addr) (ns : List Int), vs = [.ref a] ∧ SqL K H a (ns.map V.int) ∧ ns.length ≤ 63 ∧
  ∀ H' d c, Same H H' → H d = none → H c = none → SrcAt H' d c → Q (.ref d) H'
/-- nothing is promised, nothing may be asked -/
def fsNo : FSp := fun _ _ => False
theorem moNo : MoF fsNo := fun _ _ _ _ q => q
theorem FnG.no {P : Program} {w : World} {K : PySem.W.Frag} {mg : Str → Option Value} {base : Heap} {f : Addr} {fd : FuncData} {ps : List Str} : FnG P w K mg base CX0 0 f fd ps (PSp K ps.length fsNo) :=
  ⟨fun vs H Q E ⟨_, _, _, _, _, _, _, _, q⟩ => q.elim, fun A o s H a us vs Q E _ _ _ _ ⟨_, _, _, _, _, _, _, _, q⟩ => q.elim⟩
end DL

set_option Elab.async false
set_option linter.all false
set_option maxRecDepth 100000
set_option maxHeartbeats 4000000
/-! rows as trees -/
namespace DL
open PySem PySem.Spec PyProof.Rows L2
variable [Tb]
/-! ### little facts of data -/
theorem eqv_int (i j : Int) : PyData.eqv (.int i) (.int j) = (i == j) := by simp only [PyData.eqv]
theorem eqv_str (x y : Str) : PyData.eqv (.str x) (.str y) = decide (x = y) := by simp only [PyData.eqv]; first | rfl | (by_cases h : x = y <;> simp [h])
theorem sh_int (i : Int) : SeqAt.shaped (.int i) = true := by simp [SeqAt.shaped, PyData.canLay0, PyData.depth]
theorem sh_str {i : Str} (h : PyData.strOk i = true) : SeqAt.shaped (.str i) = true := by simp [SeqAt.shaped, PyData.canLay0, PyData.depth, h]
theorem sh_non : SeqAt.shaped .none = true := by simp [SeqAt.shaped, PyData.canLay0, PyData.depth]
theorem sh_bl (b : Bool) : SeqAt.shaped (.bool b) = true := by simp [SeqAt.shaped, PyData.canLay0, PyData.depth]
theorem sl2 : (2 : Nat) ≤ sizeLine := by decide
theorem atI0 {α : Type} (x : α) (xs : List α) : atI (x :: xs) 0 = some x := by
  have := L2.atI_nat (xs := x :: xs) (j := 0) (v := x) rfl
  exact this
theorem atI1 {α : Type} (x y : α) (xs : List α) : atI (x :: y :: xs) 1 = some y := by
  have := L2.atI_nat (xs := x :: y :: xs) (j := 1) (v := y) rfl
  exact this
theorem dat_va (d : PyData) : (RV.va d).dat = d := rfl
theorem dat_fr (ds : List PyData) : (RV.fr ds).dat = .list ds := rfl
theorem sv_va (d : PyData) : (RV.va d).sv = .va d := rfl
theorem sv_fr (ds : List PyData) : (RV.fr ds).sv = .ow ds := rfl
theorem beq0 (n : Nat) : (((n : Int) + 1 : Int) == 0) = false := by rw [beq_eq_false_iff_ne]; omega
theorem onOw_ow {i : Nat} {sd : SD} {k : List PyData → Prop} {ds : List PyData} (e : getS sd i = .ow ds) : onOw i sd k = k ds := by unfold onOw; rw [e]
theorem nil_or_snoc {α : Type} (xs : List α) : xs = [] ∨ ∃ init x, xs = init ++ [x] := by
  rcases List.eq_nil_or_concat xs with h | ⟨i, x, h⟩
  · exact .inl h
  · exact .inr ⟨i, x, by rw [h, List.concat_eq_append]⟩
/-! ### rows -/
inductive Rw where
  | let (c : Fin 26)
  | join (rs : List Rw)
  | right (r : Rw)
  | left (r : Rw)
  | mix (rs : List Rw)
abbrev sJ : Str := "join"
abbrev sR : Str := "right"
abbrev sL : Str := "left"
abbrev sM : Str := "mix"
mutual
def Rw.toD : Rw → PyData
  | .let c => .str ⟨#[97 + c.val]⟩
  | .join rs => .tuple [.str sJ, .tuple (Rw.toDs rs)]
  | .right r => .tuple [.str sR, r.toD]
  | .left r => .tuple [.str sL, r.toD]
  | .mix rs => .tuple [.str sM, .tuple (Rw.toDs rs)]
def Rw.toDs : List Rw → List PyData
  | [] => []
  | r :: rs => r.toD :: Rw.toDs rs
end
mutual
/-- letters and tuples that begin with a word -/
def Rw.nodes : Rw → Nat
  | .let _ => 1
  | .join rs => 1 + Rw.nodesL rs
  | .right r => 1 + r.nodes
  | .left r => 1 + r.nodes
  | .mix rs => 1 + Rw.nodesL rs
def Rw.nodesL : List Rw → Nat
  | [] => 0
  | r :: rs => r.nodes + Rw.nodesL rs
end
mutual
/-- joins in it laid open -/
def Rw.opened : Rw → List Rw
  | .join rs => Rw.openedL rs
  | r => [r]
def Rw.openedL : List Rw → List Rw
  | [] => []
  | r :: rs => r.opened ++ Rw.openedL rs
end
theorem Rw.toDs_eq : ∀ rs : List Rw, Rw.toDs rs = rs.map Rw.toD
  | [] => by simp only [Rw.toDs, List.map_nil]
  | r :: rs => by simp only [Rw.toDs, List.map_cons, Rw.toDs_eq rs]
theorem Rw.openedL_eq : ∀ rs : List Rw, Rw.openedL rs = rs.flatMap Rw.opened
  | [] => by simp only [Rw.openedL, List.flatMap_nil]
  | r :: rs => by simp only [Rw.openedL, List.flatMap_cons, Rw.openedL_eq rs]
theorem Rw.openedL_cons (r : Rw) (rs : List Rw) : Rw.openedL (r :: rs) = r.opened ++ Rw.openedL rs := by simp only [Rw.openedL]
theorem Rw.nodesL_eq : ∀ rs : List Rw, Rw.nodesL rs = (rs.map Rw.nodes).sum
  | [] => by simp only [Rw.nodesL, List.map_nil, List.sum_nil]
  | r :: rs => by simp only [Rw.nodesL, List.map_cons, List.sum_cons, Rw.nodesL_eq rs]
theorem Rw.nodesL_app : ∀ (rs ss : List Rw), Rw.nodesL (rs ++ ss) = Rw.nodesL rs + Rw.nodesL ss
  | [], ss => by simp [Rw.nodesL]
  | r :: rs, ss => by simp only [List.cons_append, Rw.nodesL, Rw.nodesL_app rs ss]; omega
theorem Rw.nodesL_rev : ∀ rs : List Rw, Rw.nodesL rs.reverse = Rw.nodesL rs
  | [] => rfl
  | r :: rs => by rw [List.reverse_cons, Rw.nodesL_app, Rw.nodesL_rev rs]; simp only [Rw.nodesL]; omega
theorem Rw.nodes_pos (r : Rw) : 0 < r.nodes := by cases r <;> simp only [Rw.nodes] <;> omega
theorem Rw.len_le : ∀ rs : List Rw, rs.length ≤ Rw.nodesL rs
  | [] => Nat.zero_le _
  | r :: rs => by simp only [List.length_cons, Rw.nodesL]; have := Rw.len_le rs; have := r.nodes_pos; omega
theorem Rw.openedL_app (rs ss : List Rw) : Rw.openedL (rs ++ ss) = Rw.openedL rs ++ Rw.openedL ss := by
  rw [Rw.openedL_eq, Rw.openedL_eq, Rw.openedL_eq, List.flatMap_append]
mutual
theorem Rw.opened_len : ∀ r : Rw, r.opened.length ≤ r.nodes
  | .join rs => by simp only [Rw.opened, Rw.nodes]; have := Rw.openedL_len rs; omega
  | .let c => by simp [Rw.opened, Rw.nodes]
  | .right r => by simp [Rw.opened, Rw.nodes]
  | .left r => by simp [Rw.opened, Rw.nodes]
  | .mix rs => by simp [Rw.opened, Rw.nodes]
theorem Rw.openedL_len : ∀ rs : List Rw, (Rw.openedL rs).length ≤ Rw.nodesL rs
  | [] => by simp [Rw.openedL]
  | r :: rs => by simp only [Rw.openedL, Rw.nodesL, List.length_append]; have := Rw.opened_len r; have := Rw.openedL_len rs; omega
end
/-- the first thing that is asked of a row: its word, or its letter -/
def Rw.word : Rw → Str
  | .let c => ⟨#[97 + c.val]⟩
  | .join _ => sJ
  | .right _ => sR
  | .left _ => sL
  | .mix _ => sM
theorem nJR : ¬ sR = sJ := by decide +kernel
theorem nJL : ¬ sL = sJ := by decide +kernel
theorem nJM : ¬ sM = sJ := by decide +kernel
theorem nJc (c : Nat) : ¬ (⟨#[c]⟩ : Str) = sJ := by
  intro e
  have := congrArg (fun x : Str => x.cps.size) e
  have h : (sJ : Str).cps.size = 4 := by decide +kernel
  rw [h] at this
  cases this
def Rw.isJ : Rw → Bool
  | .join _ => true
  | _ => false
theorem Rw.word_J (r : Rw) : decide (r.word = sJ) = r.isJ := by
  cases r with
  | «let» c => exact decide_eq_false (nJc _)
  | join rs => exact decide_eq_true rfl
  | right r => exact decide_eq_false nJR
  | left r => exact decide_eq_false nJL
  | mix r => exact decide_eq_false nJM
/-- row[0] -/
theorem rdIx_word (r : Rw) {Q : RV → Prop} (q : Q (.va (.str r.word))) : rdIx r.toD (.int 0) Q := by
  cases r with
  | «let» c =>
    simp only [Rw.toD, rdIx]
    refine ⟨by show 1 ≤ sizeLine; decide, ?_⟩
    show match atI [97 + c.val] 0 with | some c => Q (.va (.str ⟨#[c]⟩)) | none => False
    rw [atI0]
    exact q
  | _ => simp only [Rw.toD, rdIx, atI0]; exact q
theorem ok_sJ : PyData.strOk sJ = true := by decide +kernel
theorem ok_sR : PyData.strOk sR = true := by decide +kernel
theorem ok_sL : PyData.strOk sL = true := by decide +kernel
theorem ok_sM : PyData.strOk sM = true := by decide +kernel
theorem ok_let (c : Fin 26) : PyData.strOk (⟨#[97 + c.val]⟩ : Str) = true := by
  have : 97 + c.val < 1114112 := by omega
  simp [PyData.strOk, this]
theorem Rw.ok_word (r : Rw) : PyData.strOk r.word = true := by
  cases r with
  | «let» c => exact ok_let c
  | join rs => exact ok_sJ
  | right r => exact ok_sR
  | left r => exact ok_sL
  | mix rs => exact ok_sM
end DL

set_option Elab.async false
set_option linter.all false
set_option maxRecDepth 100000
set_option maxHeartbeats 4000000
/-! rows: how deep, how they show, that each is equal to itself -/
namespace DL
open PySem PySem.Spec PyProof.Rows L2
variable [Tb]
mutual
def Rw.dep : Rw → Nat
  | .let _ => 0
  | .join rs => Rw.depL rs + 1
  | .right r => r.dep + 1
  | .left r => r.dep + 1
  | .mix rs => Rw.depL rs + 1
def Rw.depL : List Rw → Nat
  | [] => 0
  | r :: rs => max r.dep (Rw.depL rs)
end
theorem Rw.dep_mem : ∀ {rs : List Rw} {r : Rw}, r ∈ rs → r.dep ≤ Rw.depL rs
  | [], r, m => by cases m
  | s :: rs, r, m => by
    simp only [Rw.depL]
    rcases List.mem_cons.mp m with rfl | m
    · omega
    · have := Rw.dep_mem m; omega
theorem Rw.depL_le {n : Nat} : ∀ {rs : List Rw}, (∀ r ∈ rs, r.dep ≤ n) → Rw.depL rs ≤ n
  | [], _ => Nat.zero_le _
  | r :: rs, h => by
    simp only [Rw.depL]
    have := h r List.mem_cons_self
    have := Rw.depL_le (rs := rs) fun s m => h s (List.mem_cons_of_mem _ m)
    omega
mutual
theorem Rw.lay : ∀ r : Rw, r.toD.canLay0 = true ∧ r.toD.depth ≤ 2 * r.dep
  | .let c => by
    simp only [Rw.toD, PyData.canLay0, PyData.depth]
    exact ⟨ok_let c, Nat.zero_le _⟩
  | .join rs => by
    have := Rw.layL rs
    simp only [Rw.toD, PyData.canLay0, PyData.canLayAll0, PyData.depth, PyData.depthAll, Rw.dep, this.1, ok_sJ, Bool.and_self, true_and]
    omega
  | .mix rs => by
    have := Rw.layL rs
    simp only [Rw.toD, PyData.canLay0, PyData.canLayAll0, PyData.depth, PyData.depthAll, Rw.dep, this.1, ok_sM, Bool.and_self, true_and]
    omega
  | .right r => by
    have := Rw.lay r
    simp only [Rw.toD, PyData.canLay0, PyData.canLayAll0, PyData.depth, PyData.depthAll, Rw.dep, this.1, ok_sR, Bool.and_self, true_and]
    omega
  | .left r => by
    have := Rw.lay r
    simp only [Rw.toD, PyData.canLay0, PyData.canLayAll0, PyData.depth, PyData.depthAll, Rw.dep, this.1, ok_sL, Bool.and_self, true_and]
    omega
theorem Rw.layL : ∀ rs : List Rw, PyData.canLayAll0 (Rw.toDs rs) = true ∧ PyData.depthAll (Rw.toDs rs) ≤ 2 * Rw.depL rs
  | [] => by simp only [Rw.toDs, PyData.canLayAll0, PyData.depthAll]; exact ⟨trivial, Nat.zero_le _⟩
  | r :: rs => by
    have := Rw.lay r
    have h := Rw.layL rs
    simp only [Rw.toDs, PyData.canLayAll0, PyData.depthAll, Rw.depL, this.1, h.1, Bool.and_self, true_and]
    omega
end
theorem Rw.sh (r : Rw) (h : r.dep ≤ 32) : SeqAt.shaped r.toD = true := by
  have := r.lay
  unfold SeqAt.shaped
  rw [this.1, decide_eq_true (by omega)]
  rfl
theorem Rw.shL (rs : List Rw) (h : Rw.depL rs ≤ 31) : SeqAt.shaped (.list (rs.map Rw.toD)) = true := by
  have := Rw.layL rs
  rw [Rw.toDs_eq] at this
  have e1 : PyData.canLay0 (.list (rs.map Rw.toD)) = true := by simp only [PyData.canLay0]; exact this.1
  have e2 : PyData.depth (.list (rs.map Rw.toD)) ≤ 64 := by simp only [PyData.depth]; omega
  unfold SeqAt.shaped
  rw [e1, decide_eq_true e2]
  rfl
theorem Rw.shT (rs : List Rw) (h : Rw.depL rs ≤ 31) : SeqAt.shaped (.tuple (rs.map Rw.toD)) = true := by
  have := Rw.layL rs
  rw [Rw.toDs_eq] at this
  have e1 : PyData.canLay0 (.tuple (rs.map Rw.toD)) = true := by simp only [PyData.canLay0]; exact this.1
  have e2 : PyData.depth (.tuple (rs.map Rw.toD)) ≤ 64 := by simp only [PyData.depth]; omega
  unfold SeqAt.shaped
  rw [e1, decide_eq_true e2]
  rfl
theorem eqv_str_self (s : Str) : PyData.eqv (.str s) (.str s) = true := by rw [eqv_str]; exact decide_eq_true rfl
mutual
theorem Rw.eqv_self : ∀ r : Rw, PyData.eqv r.toD r.toD = true
  | .let c => by simp only [Rw.toD]; exact eqv_str_self _
  | .join rs => by simp only [Rw.toD, PyData.eqv, PyData.eqvAll, Rw.eqvL_self rs, eqv_str_self]; first | rfl | simp
  | .mix rs => by simp only [Rw.toD, PyData.eqv, PyData.eqvAll, Rw.eqvL_self rs, eqv_str_self]; first | rfl | simp
  | .right r => by simp only [Rw.toD, PyData.eqv, PyData.eqvAll, Rw.eqv_self r, eqv_str_self]; first | rfl | simp
  | .left r => by simp only [Rw.toD, PyData.eqv, PyData.eqvAll, Rw.eqv_self r, eqv_str_self]; first | rfl | simp
theorem Rw.eqvL_self : ∀ rs : List Rw, PyData.eqvAll (Rw.toDs rs) (Rw.toDs rs) = true
  | [] => by simp only [Rw.toDs, PyData.eqvAll]
  | r :: rs => by simp only [Rw.toDs, PyData.eqvAll, Rw.eqv_self r, Rw.eqvL_self rs, Bool.and_self]
end
theorem eqv_list_nil (ds : List PyData) : PyData.eqv (.list ds) (.list []) = ds.isEmpty := by
  cases ds with
  | nil => simp only [PyData.eqv, PyData.eqvAll]; rfl
  | cons d ds => simp only [PyData.eqv, PyData.eqvAll]; rfl
theorem eqv_non : PyData.eqv .none .none = true := by simp only [PyData.eqv]
/-! ### how long the text is -/
theorem len_app (s t : Str) : (s ++ t).length = s.length + t.length := by
  show (s.cps ++ t.cps).size = _
  rw [Array.size_append]
  rfl
theorem rl_let : ∀ c : Fin 26, (reprText (⟨#[97 + c.val]⟩ : Str)).length = 3 := by decide +kernel
theorem rl_words : (reprText sJ).length ≤ 7 ∧ (reprText sR).length ≤ 7 ∧ (reprText sL).length ≤ 7 ∧ (reprText sM).length ≤ 7 := by decide +kernel
def sumLen : List Str → Nat
  | [] => 0
  | t :: ts => t.length + 2 + sumLen ts
theorem len_sep : (Str.ofString ", ").length = 2 := by decide +kernel
theorem join_len : ∀ ts : List Str, ((Str.ofString ", ").join ts).length ≤ sumLen ts
  | [] => by simp [Str.join, sumLen]; decide
  | [t] => by simp only [Str.join, sumLen]; omega
  | t :: u :: ts => by
    have := join_len (u :: ts)
    simp only [Str.join, sumLen, len_app, len_sep] at this ⊢
    omega
theorem tup_len (ts : List Str) : (tupleText ts).length ≤ sumLen ts + 3 := by
  unfold tupleText
  rw [len_app, len_app]
  have h := join_len ts
  have h1 : (Str.ofString "(").length = 1 := by decide +kernel
  have h2 : (Str.ofString (if (ts.length == 1) = true then ",)" else ")")).length ≤ 2 := by
    split
    · decide +kernel
    · decide +kernel
  omega
theorem textFrom_len : ∀ (ts : List Str) (k : Nat) (s : Str), (textFrom k s ts).length ≤ s.length + sumLen ts
  | [], k, s => by simp only [textFrom, sumLen]; omega
  | t :: ts, k, s => by
    simp only [textFrom, sumLen]
    have h := textFrom_len ts (k + 1) (s ++ Str.ofString (if k > 0 then ", " else "") ++ t)
    rw [len_app, len_app] at h
    have h2 : (Str.ofString (if k > 0 then ", " else "")).length ≤ 2 := by
      split
      · decide +kernel
      · decide +kernel
    omega
theorem list_len (ts : List Str) : (listText ts).length ≤ sumLen ts + 2 := by
  unfold listText
  rw [len_app]
  have := textFrom_len ts 0 (Str.ofString "[")
  have h1 : (Str.ofString "[").length = 1 := by decide +kernel
  have h2 : (Str.ofString "]").length = 1 := by decide +kernel
  omega
mutual
theorem Rw.show_ok : ∀ r : Rw, r.toD.showable = true ∧ r.toD.shown.length ≤ 30 * r.nodes - 2
  | .let c => by
    simp only [Rw.toD, PyData.showable, PyData.shown, Rw.nodes, true_and, rl_let]
    omega
  | .join rs => by
    have h := Rw.showL_ok rs
    have := tup_len (PyData.shownAll (Rw.toDs rs))
    have h3 := tup_len [reprText sJ, tupleText (PyData.shownAll (Rw.toDs rs))]
    have := rl_words
    simp only [sumLen] at h3
    simp only [Rw.toD, PyData.showable, PyData.showableAll, PyData.shown, PyData.shownAll, Rw.nodes, h.1, Bool.and_self, true_and]
    omega
  | .mix rs => by
    have h := Rw.showL_ok rs
    have := tup_len (PyData.shownAll (Rw.toDs rs))
    have h3 := tup_len [reprText sM, tupleText (PyData.shownAll (Rw.toDs rs))]
    have := rl_words
    simp only [sumLen] at h3
    simp only [Rw.toD, PyData.showable, PyData.showableAll, PyData.shown, PyData.shownAll, Rw.nodes, h.1, Bool.and_self, true_and]
    omega
  | .right r => by
    have h := Rw.show_ok r
    have h3 := tup_len [reprText sR, r.toD.shown]
    have := rl_words
    have := r.nodes_pos
    simp only [sumLen] at h3
    simp only [Rw.toD, PyData.showable, PyData.showableAll, PyData.shown, PyData.shownAll, Rw.nodes, h.1, Bool.and_self, true_and]
    omega
  | .left r => by
    have h := Rw.show_ok r
    have h3 := tup_len [reprText sL, r.toD.shown]
    have := rl_words
    have := r.nodes_pos
    simp only [sumLen] at h3
    simp only [Rw.toD, PyData.showable, PyData.showableAll, PyData.shown, PyData.shownAll, Rw.nodes, h.1, Bool.and_self, true_and]
    omega
theorem Rw.showL_ok : ∀ rs : List Rw, PyData.showableAll (Rw.toDs rs) = true ∧ sumLen (PyData.shownAll (Rw.toDs rs)) ≤ 30 * Rw.nodesL rs
  | [] => by simp only [Rw.toDs, PyData.showableAll, PyData.shownAll, sumLen, Rw.nodesL]; exact ⟨trivial, Nat.le_refl _⟩
  | r :: rs => by
    have h := Rw.show_ok r
    have h2 := Rw.showL_ok rs
    have := r.nodes_pos
    simp only [Rw.toDs, PyData.showableAll, PyData.shownAll, sumLen, Rw.nodesL, h.1, h2.1, Bool.and_self, true_and]
    omega
end
theorem Rw.okShow (r : Rw) (h : r.dep ≤ 32) (hn : r.nodes ≤ 100000) : DL.okShow r.toD := by
  have h2 := r.show_ok
  have e := sizeLine_eq
  refine ⟨⟨h2.1, r.sh h⟩, ?_⟩
  omega
theorem Rw.okShowL (rs : List Rw) (h : Rw.depL rs ≤ 31) (hn : Rw.nodesL rs ≤ 100000) : DL.okShow (.list (rs.map Rw.toD)) := by
  have h2 := Rw.showL_ok rs
  have h3 := list_len (PyData.shownAll (Rw.toDs rs))
  have e := sizeLine_eq
  refine ⟨⟨?_, Rw.shL rs h⟩, ?_⟩
  · rw [← Rw.toDs_eq]; simp only [PyData.showable]; exact h2.1
  · rw [← Rw.toDs_eq]; simp only [PyData.shown]; omega
theorem okShow_non : DL.okShow .none := by
  refine ⟨⟨rfl, sh_non⟩, ?_⟩
  decide +kernel
/-! ### loops by what holds at each turn -/
theorem forW_inv {g : WG} {wb : WS} {E : ED} (I : List PyData → SD → Prop) (h0 : ∀ sd, I [] sd → E.nx sd) (h1 : ∀ d ds sd (k : SD → Prop), (∀ sd, I ds sd → k sd) → I (d :: ds) sd → g d sd fun sd1 => wb (loopE E k) sd1) :
    ∀ ds sd, I ds sd → forW g wb E ds sd
  | [], sd, h => h0 sd h
  | d :: ds, sd, h => h1 d ds sd _ (fun sd h => forW_inv I h0 h1 ds sd h) h
/-- one of one, in order -/
inductive Al (P : PyData → PyData → Prop) : List PyData → List PyData → Prop
  | nil : Al P [] []
  | cons {d e : PyData} {ds es : List PyData} : P d e → Al P ds es → Al P (d :: ds) (e :: es)
theorem lcW_each {g : WG} {t : WB} {we : WR} {sd : SD} (P : PyData → PyData → Prop) : ∀ (ds : List PyData) (Q : List PyData → Prop),
    (∀ d ∈ ds, ∀ (A : PyData → Prop) (B : Prop), (∀ x, P d x → A x) → g d sd fun sd2 => t sd2 fun b => if b = true then we sd2 (fun z => A z.dat) else B) →
    (∀ out, Al P ds out → Q out) → lcW g t we sd ds Q
  | [], Q, _, q => q [] .nil
  | d :: ds, Q, h, q => by
    refine h d List.mem_cons_self (fun x => lcW g t we sd ds fun out => Q (x :: out)) _ fun x px => ?_
    exact lcW_each P ds _ (fun e m => h e (List.mem_cons_of_mem _ m)) fun out ho => q _ (.cons px ho)
theorem lcW_map {g : WG} {t : WB} {we : WR} {sd : SD} (f : PyData → PyData) : ∀ (ds : List PyData) (Q : List PyData → Prop),
    (∀ d ∈ ds, ∀ (A : PyData → Prop) (B : Prop), A (f d) → g d sd fun sd2 => t sd2 fun b => if b = true then we sd2 (fun z => A z.dat) else B) →
    Q (ds.map f) → lcW g t we sd ds Q
  | [], Q, _, q => q
  | d :: ds, Q, h, q => by
    refine h d List.mem_cons_self (fun x => lcW g t we sd ds fun out => Q (x :: out)) _ ?_
    exact lcW_map f ds _ (fun e m => h e (List.mem_cons_of_mem _ m)) q
theorem kt_tuple : kitB "tuple" "str" = some false := by decide +kernel
theorem kt_str : kitB "str" "str" = some true := by decide +kernel
theorem tr_bool (b : Bool) : truD (RV.va (.bool b)).dat = some b := by cases b <;> rfl
end DL

set_option Elab.async false
set_option linter.all false
set_option maxRecDepth 100000
set_option maxHeartbeats 4000000
/-! the text of a row is a text -/
namespace DL
open PySem PySem.Spec PyProof.Rows L2
variable [Tb]
theorem ok_app {s t : Str} (h1 : PyData.strOk s = true) (h2 : PyData.strOk t = true) : PyData.strOk (s ++ t) = true := by
  show (s.cps ++ t.cps).all (fun x => decide (x < 1114112)) = true
  rw [Array.all_append]
  exact Bool.and_eq_true_iff.mpr ⟨h1, h2⟩
theorem okr_let : ∀ c : Fin 26, PyData.strOk (reprText (⟨#[97 + c.val]⟩ : Str)) = true := by decide +kernel
theorem okr_words : PyData.strOk (reprText sJ) = true ∧ PyData.strOk (reprText sR) = true ∧ PyData.strOk (reprText sL) = true ∧ PyData.strOk (reprText sM) = true := by decide +kernel
def okAll : List Str → Prop
  | [] => True
  | t :: ts => PyData.strOk t = true ∧ okAll ts
theorem ok_sep : PyData.strOk (Str.ofString ", ") = true := by decide +kernel
theorem ok_join : ∀ ts : List Str, okAll ts → PyData.strOk ((Str.ofString ", ").join ts) = true
  | [], _ => by simp only [Str.join]; decide +kernel
  | [t], h => by simp only [Str.join]; exact h.1
  | t :: u :: ts, h => by
    have := ok_join (u :: ts) h.2
    simp only [Str.join] at this ⊢
    exact ok_app (ok_app h.1 ok_sep) this
theorem ok_tup {ts : List Str} (h : okAll ts) : PyData.strOk (tupleText ts) = true := by
  unfold tupleText
  refine ok_app (ok_app (by decide +kernel) (ok_join ts h)) ?_
  split
  · decide +kernel
  · decide +kernel
theorem ok_from : ∀ (ts : List Str) (k : Nat) (s : Str), PyData.strOk s = true → okAll ts → PyData.strOk (textFrom k s ts) = true
  | [], k, s, hs, _ => by simp only [textFrom]; exact hs
  | t :: ts, k, s, hs, h => by
    simp only [textFrom]
    refine ok_from ts _ _ (ok_app (ok_app hs ?_) h.1) h.2
    split
    · decide +kernel
    · decide +kernel
theorem ok_lst {ts : List Str} (h : okAll ts) : PyData.strOk (listText ts) = true := by
  unfold listText
  exact ok_app (ok_from ts _ _ (by decide +kernel) h) (by decide +kernel)
mutual
theorem Rw.ok_shown : ∀ r : Rw, PyData.strOk r.toD.shown = true
  | .let c => by simp only [Rw.toD, PyData.shown]; exact okr_let c
  | .join rs => by
    simp only [Rw.toD, PyData.shown, PyData.shownAll]
    exact ok_tup ⟨okr_words.1, ok_tup (Rw.ok_shownL rs), trivial⟩
  | .mix rs => by
    simp only [Rw.toD, PyData.shown, PyData.shownAll]
    exact ok_tup ⟨okr_words.2.2.2, ok_tup (Rw.ok_shownL rs), trivial⟩
  | .right r => by
    simp only [Rw.toD, PyData.shown, PyData.shownAll]
    exact ok_tup ⟨okr_words.2.1, Rw.ok_shown r, trivial⟩
  | .left r => by
    simp only [Rw.toD, PyData.shown, PyData.shownAll]
    exact ok_tup ⟨okr_words.2.2.1, Rw.ok_shown r, trivial⟩
theorem Rw.ok_shownL : ∀ rs : List Rw, okAll (PyData.shownAll (Rw.toDs rs))
  | [] => by simp only [Rw.toDs, PyData.shownAll]; trivial
  | r :: rs => by
    simp only [Rw.toDs, PyData.shownAll]
    exact ⟨Rw.ok_shown r, Rw.ok_shownL rs⟩
end
theorem Rw.ok_shownLi (rs : List Rw) : PyData.strOk (PyData.list (rs.map Rw.toD)).shown = true := by
  rw [← Rw.toDs_eq]; simp only [PyData.shown]; exact ok_lst (Rw.ok_shownL rs)
theorem ok_shownN : PyData.strOk PyData.none.shown = true := by decide +kernel
end DL

set_option Elab.async false
set_option linter.all false
set_option maxRecDepth 100000
set_option maxHeartbeats 400000
/-! more rules: not, in -/
namespace DL
open PySem PySem.Spec PyProof.Rows L2
variable [Tb]
section
variable {X : Cx} {e a b : Expr} {m m1 m2 : Md} {pos p : Pos}
def wNotV (w : WR) : WR := fun sd Q => w sd fun r => match r with
  | .va (.bool c) => Q (.va (.bool (!c)))
  | _ => False
theorem evr_not {w : WR} (h : EvR X a w) : EvR X (.UnaryOp .Not a pos) (wNotV w) where
  pe := PE.weak (pe_not h.pe) fun σ H Q ⟨c, sd, os, hk, r, q⟩ => ⟨c, sd, os, hk, r, h.mo _ _ _ (fun z k v H1 x1 rv => by
    match z, k, rv with
    | .va (.bool t), k, rv =>
      have rv : Dx _ _ v (.bool t) := rv
      cases rv
      exact ⟨t, rfl, k _ H1 x1 (.bl _)⟩) q⟩
  mo := fun sd Q Q' k q => h.mo _ _ _ (fun z y => by
    match z, y with
    | .va (.bool t), y => exact k _ y) q
/-! ### x in a list or a tuple of plain things -/
def flatD : PyData → Bool
  | .none => true
  | .bool _ => true
  | .int _ => true
  | .str _ => true
  | _ => false
def rdIn (neg : Bool) : RD2 := fun d e Q => match e with
  | .list ys => (flatD d = true ∧ ys.all flatD = true) ∧ Q (.va (.bool (if neg then !(ys.any fun y => y.eqv d) else ys.any fun y => y.eqv d)))
  | .tuple ys => (flatD d = true ∧ ys.all flatD = true) ∧ Q (.va (.bool (if neg then !(ys.any fun y => y.eqv d) else ys.any fun y => y.eqv d)))
  | .dict es => isKey d = true ∧ Q (.va (.bool (if neg then !(lookD es d).isSome else (lookD es d).isSome)))
  | _ => False
theorem rdIn_mo {neg : Bool} : Mo2 (rdIn neg) := by
  intro d e Q Q' k q
  unfold rdIn at q ⊢
  split at q <;> first | exact ⟨q.1, k _ q.2⟩ | exact q.elim
theorem Dx.flat {K : PySem.W.Frag} {H : Hp} {v : V} {d : PyData} (h : Dx K H v d) (f : flatD d = true) : flatV v = true := by
  cases h <;> first | rfl | exact absurd f Bool.false_ne_true
theorem eqV_data {K : PySem.W.Frag} {H : Hp} {x y : V} {d e : PyData} (h1 : Dx K H x d) (h2 : Dx K H y e) (f1 : flatD d = true) (f2 : flatD e = true) : eqV x y = d.eqv e := by
  cases h1 <;> cases h2 <;> first
    | exact absurd f1 Bool.false_ne_true
    | exact absurd f2 Bool.false_ne_true
    | (simp only [eqV, PyData.eqv]; done)
    | (simp only [eqV, PyData.eqv]; rfl)
    | (simp [eqV, PyData.eqv]; done)

theorem flats {K : PySem.W.Frag} {H : Hp} : ∀ {vs : List V} {ds : List PyData}, DxAll K H vs ds → ds.all flatD = true → vs.all flatV = true
  | _, _, .nil, _ => rfl
  | _, _, .cons h t, f => by
    rw [List.all_cons, Bool.and_eq_true] at f
    rw [List.all_cons, h.flat f.1, flats t f.2]
    rfl
theorem inV_data {K : PySem.W.Frag} {H : Hp} {x : V} {d : PyData} (h : Dx K H x d) (f : flatD d = true) : ∀ {vs : List V} {ds : List PyData}, DxAll K H vs ds → ds.all flatD = true → inV x vs = ds.any fun y => y.eqv d
  | _, _, .nil, _ => rfl
  | _, _, .cons g t, q => by
    rw [List.all_cons, Bool.and_eq_true] at q
    have e := inV_data h f t q.2
    unfold inV at e ⊢
    rw [List.any_cons, List.any_cons, eqV_data g h q.1 f, e]
theorem shFlat {K : PySem.W.Frag} {S O : List Addr} {H : Hp} {x : V} {d : PyData} (h : DM .sh K S O H x d) (f : flatD d = true) : Dx K (hid O H) x d := by
  cases d with
  | list _ => exact absurd f Bool.false_ne_true
  | dict _ => exact absurd f Bool.false_ne_true
  | _ => exact h
def hasD (es : List (PyData × PyData)) (d : PyData) : Bool := (lookD es d).isSome
def rInD (neg : Bool) : R2 := fun x y H Q => ∃ (a : Addr) (kvs : List (Key × V)) (k : Key), y = .ref a ∧ x = kV k ∧ H a = some (.dK kvs) ∧ Q (.bl (if neg then !(valV kvs k).isSome else (valV kvs k).isSome)) H
theorem op_in_dict (hu : X.A.units + 1 < cLine) : OpR X (compareOp .In) (rInD false) := by
  intro pins s σ H x y v u Q I rx ry h
  obtain ⟨a, kvs, k, rfl, rfl, e, q⟩ := h
  cases ry
  exact d_in hu I (DGet.k e) rx fun s' I' => ⟨.bl _, H, I', rfl, q⟩
theorem op_notIn_dict (hu : X.A.units + 1 < cLine) : OpR X (compareOp .NotIn) (rInD true) := by
  intro pins s σ H x y v u Q I rx ry h
  obtain ⟨a, kvs, k, rfl, rfl, e, q⟩ := h
  cases ry
  exact d_notIn hu I (DGet.k e) rx fun s' I' => ⟨.bl _, H, I', rfl, q⟩
theorem br_in {K : PySem.W.Frag} {neg : Bool} : Br2 K .sh .sh (fun x y H Q => rIn K neg x y H Q ∨ rInD neg x y H Q) (rdIn neg) := by
  intro S O H x y d e Q hs hO hx hy q
  unfold rdIn at q
  split at q
  · obtain ⟨⟨f1, f2⟩, q⟩ := q
    obtain ⟨a, us, rfl, h1, h2⟩ := hy
    have dx := shFlat hx f1
    exact .inl ⟨a, us, rfl, .inl (.inl (.inl (hid_some h1).2)), dx.flat f1, flats h2 f2, by rw [inV_data dx f1 h2 f2]; exact q _ H (Same.refl H) (.bl _)⟩
  · obtain ⟨⟨f1, f2⟩, q⟩ := q
    obtain ⟨a, us, rfl, h1, h2⟩ := shTup hy
    have dx := shFlat hx f1
    exact .inl ⟨a, us, rfl, .inr (SqT.same hid_sub h1), dx.flat f1, flats h2 f2, by rw [inV_data dx f1 h2 f2]; exact q _ H (Same.refl H) (.bl _)⟩
  · rename_i es
    obtain ⟨kb, q⟩ := q
    obtain ⟨k, rfl⟩ := isKey_get kb
    obtain ⟨a, o, rfl, h1, h2⟩ := hy
    have hx : Dx K (hid O H) x (keyD k) := by cases k <;> exact hx
    obtain ⟨kvs, rfl, h3⟩ := h2.look k
    have e : (valV kvs k).isSome = (lookD es (keyD k)).isSome := by
      rcases h3 with ⟨h3, h4⟩ | ⟨v, d, h3, h4, _⟩
      · rw [h3, h4]; rfl
      · rw [h3, h4]; rfl
    exact .inr ⟨a, kvs, k, rfl, dx_key hx, (hid_some h1).2, by rw [e]; exact q _ H (Same.refl H) (.bl _)⟩
  · exact q.elim
theorem un1 (hu : X.A.units + 64 < cLine) : X.A.units + 1 < cLine := Nat.lt_of_le_of_lt (by omega) hu
theorem od_in (hu : X.A.units + 64 < cLine) : OpD X (compareOp .In) .sh .sh (rdIn false) := ⟨⟨_, op_in_seq.or (op_in_dict (un1 hu)), br_in⟩, rdIn_mo⟩
/-! ### a op1 b op2 c -/
def wChain (rd rd' : RD2) (wa wb wc : WD) : WR := fun sd Q => wa sd fun d => wb sd fun e => rd d e fun z => match z with
  | .va (.bool t) => if t = true then wc sd fun g => rd' e g Q else Q (.va (.bool false))
  | _ => False
theorem wChain_mo {rd rd' : RD2} {wa wb wc : WD} {m3 : Md} {c : Expr} (h : Mo2 rd) (h' : Mo2 rd') (ha : Ev m1 X a wa) (hb : Ev m2 X b wb) (hc : Ev m3 X c wc) :
    ∀ sd (Q Q' : RV → Prop), (∀ r, Q r → Q' r) → wChain rd rd' wa wb wc sd Q → wChain rd rd' wa wb wc sd Q' :=
  fun sd Q Q' k q => ha.mo _ _ _ (fun d z => hb.mo _ _ _ (fun e z => h d e _ _ (fun y q => by
    match y, q with
    | .va (.bool true), q => exact hc.mo _ _ _ (fun g z => h' e g _ _ k z) q
    | .va (.bool false), q => exact k _ q) z) z) q
theorem chain_run {rd rd' : RD2} {r r' : R2} {wa wb wc : WD} {m3 : Md} {c : Expr} {K : PySem.W.Frag} (eK : K = X.K) (h1 : Br2 X.K m1 m2 r rd) (h2 : Br2 X.K m2 m3 r' rd') (hm : Mo2 rd) (hm' : Mo2 rd') (ha : Ev m1 X a wa) (hb : Ev m2 X b wb) (hc : Ev m3 X c wc)
    {σ : L2.St} {H : Hp} {Q : VK} (q : tR X.K (wChain rd rd' wa wb wc) σ H Q) : tChain r r' (tM m1 X.K wa) (tM m2 X.K wb) (tM m3 X.K wc) σ H Q := by
  obtain ⟨cd, sd, os, hk, rr, q⟩ := q
  refine ⟨cd, sd, os, hk, rr, ha.mo _ _ _ (fun d k v H1 x1 d1 => ⟨cd, sd, os, hk, rr.grow x1, hb.mo _ _ _ (fun e k2 u H2 x2 d2 => ?_) k⟩) q⟩
  have x12 := x1.trans x2
  have t12 : ∀ a ∈ OO cd os, H2 a ≠ none := fun a m => (rr.grow x12).there m
  refine h1 cd.S (OO cd os) H2 v u d e _ rr.sO t12 (DM.grow rr.sO x2 d1) d2 (hm _ _ _ _ (fun z kz v' H' s rv => ?_) k2)
  have x3 := x12.trans (Ext.of s)
  match z, kz, rv with
  | .va (.bool true), kz, rv =>
    have rv : Dx _ _ v' (.bool true) := rv
    cases rv
    refine ⟨true, rfl, ?_⟩
    refine ⟨cd, sd, os, hk, rr.grow x3, hc.mo _ _ _ (fun g k4 w' H4 x4 d4 => ?_) kz⟩
    have x34 := x3.trans x4
    refine h2 cd.S (OO cd os) H4 u w' e g Q rr.sO (fun a m => (rr.grow x34).there m) (DM.grow rr.sO ((Ext.of s).trans x4) d2) d4 (hm' _ _ _ _ (fun y ky v5 H5 s5 rv5 => ?_) k4)
    exact ky v5 H5 (x34.trans (Ext.of s5)) (RvR.from rr.sO (fun a m => (rr.grow x34).there m) x34 rv5)
  | .va (.bool false), kz, rv =>
    have rv : Dx _ _ v' (.bool false) := rv
    cases rv
    exact ⟨false, rfl, kz _ _ x3 (.bl _)⟩
theorem evr_chain {op op' : CmpOp} {rd rd' : RD2} {wa wb wc : WD} {m3 : Md} {c : Expr} (ho : OpD X (compareOp op) m1 m2 rd) (ho' : OpD X (compareOp op') m2 m3 rd') (ha : Ev m1 X a wa) (hb : Ev m2 X b wb) (hc : Ev m3 X c wc)
    (hm : lastMarks [op, op'] [b, c] = false := by with_unfolding_all rfl) : EvR X (.Compare a [op, op'] [b, c] pos) (wChain rd rd' wa wb wc) where
  pe := by
    obtain ⟨r, h1, h2⟩ := ho.ex
    obtain ⟨r', h1', h2'⟩ := ho'.ex
    exact PE.weak (pe_chain h1 h1' ha.pe hb.pe hc.pe hm) fun σ H Q q => chain_run rfl h2 h2' ho.mo ho'.mo ha hb hc q
  mo := wChain_mo ho.mo ho'.mo ha hb hc
theorem evt_chain {op op' : CmpOp} {rd rd' : RD2} {wa wb wc : WD} {m3 : Md} {c : Expr} (ho : OpD X (compareOp op) m1 m2 rd) (ho' : OpD X (compareOp op') m2 m3 rd') (ha : Ev m1 X a wa) (hb : Ev m2 X b wb) (hc : Ev m3 X c wc)
    (hm : lastMarks [op, op'] [b, c] = false := by with_unfolding_all rfl) : EvT X (.Compare a [op, op'] [b, c] pos) (wBo (wChain rd rd' wa wb wc)) where
  pt := by
    obtain ⟨r, h1, h2⟩ := ho.ex
    obtain ⟨r', h1', h2'⟩ := ho'.ex
    refine PT.weak (pt_chain h1 h1' ha.pe hb.pe hc.pe hm) fun σ H Q q => ?_
    refine chain_run rfl h2 h2' ho.mo ho'.mo ha hb hc ?_
    obtain ⟨cd, sd, os, hk, rr, q⟩ := q
    refine ⟨cd, sd, os, hk, rr, wChain_mo ho.mo ho'.mo ha hb hc _ _ _ (fun z kz v H' x rv => ?_) q⟩
    match z, kz, rv with
    | .va (.bool t), kz, rv =>
      have rv : Dx _ _ v (.bool t) := rv
      cases rv
      exact ⟨t, rfl, kz H' x⟩
  mo := fun sd Q Q' k q => wChain_mo ho.mo ho'.mo ha hb hc _ _ _ (fun z y => by
    match z, y with
    | .va (.bool t), y => exact k _ y) q
/-! ### texts in order -/
def rdStr (g : Str → Str → Bool) : RD2 := fun d e Q => match d, e with
  | .str i, .str j => Q (.va (.bool (g i j)))
  | _, _ => False
theorem rdStr_mo {g : Str → Str → Bool} : Mo2 (rdStr g) := by
  intro d e Q Q' k q
  unfold rdStr at q ⊢
  split at q
  · exact k _ q
  · exact q.elim
theorem od_leS : OpD X (compareOp .LtE) .sh .sh (rdStr fun i j => !decide (j.cps.toList < i.cps.toList)) where
  ex := ⟨_, op_le_str, fun S O H x y d e Q _ _ hx hy q => by
    unfold rdStr at q
    split at q
    · exact ⟨_, _, shStr hx, shStr hy, q _ H (Same.refl H) (.bl _)⟩
    · exact q.elim⟩
  mo := rdStr_mo
theorem od_ltS : OpD X (compareOp .Lt) .sh .sh (rdStr fun i j => decide (i.cps.toList < j.cps.toList)) where
  ex := ⟨_, op_lt_str, fun S O H x y d e Q _ _ hx hy q => by
    unfold rdStr at q
    split at q
    · exact ⟨_, _, shStr hx, shStr hy, q _ H (Same.refl H) (.bl _)⟩
    · exact q.elim⟩
  mo := rdStr_mo
end
end DL

set_option Elab.async false
set_option linter.all false
set_option maxRecDepth 100000
set_option maxHeartbeats 400000
/-! a def handed over, and called by its name there -/
namespace DL
open PySem PySem.Spec PyProof.Rows L2
variable [Tb]
section
variable {X : Cx} {e a b : Expr} {es : List Expr} {m m1 m2 : Md} {pos p : Pos} {x : Str} {k n : Nat} {f : Addr} {fd : FuncData} {ps : List Str} {fs : FSp} {wa : WA}
def wFn (f : Addr) (ws : WA) : WA := fun sd Q => ws sd fun ds => Q (.fn f :: ds)
/-- a def of the module's as an argument -/
theorem eva_fn {ws : WA} (hm : X.mg x = some (.ref f)) (t : EvA m X es ws) (hg : Gl X x := by rfl) (hdb : (x == ("__debug__" : Str)) = false := by decide)
    (hs : starEach (.Name x pos :: es) X.env = (false, eval (.Name x pos) X.env) :: starEach es X.env := by rfl) : EvA m X (.Name x pos :: es) (wFn f ws) where
  pa := PA.weak (pa_cons (pe_glob (v := .ref f) hg hm rfl hdb) t.pa hs) fun σ H Q ⟨c, sd, os, hk, r, q⟩ =>
    ⟨c, sd, os, hk, r, t.mo _ _ _ (fun ds k2 vs H2 x2 d2 => k2 _ H2 x2 (.fn d2)) q⟩
  mo := fun sd Q Q' k q => t.mo _ _ _ (fun ds z => k _ z) q
/-- slot i holds the def at f -/
def wCallL (i : Nat) (f : Addr) (n : Nat) (fs : FSp) (wa : WA) : WR := fun sd Q => getS sd i = .fn f ∧ wa sd fun as => as.length = n ∧ fs as Q
theorem pe_callGL {CX : CXT} {sp : Sp} {E : XK} {i : Nat} {t : TA} (F : FnG X.prog X.w X.K X.mg X.base CX k f fd ps sp) (hr : RmG k X.A) (hN : X.N[i]? = some x) (hv : Vis X.env.scope x)
    (hk : PySem.W.keepIn X.K (.ref f) = true) (hb : Binds X.K fd ps []) (hx : Passes CX X E) (ha : PA X (e :: es) t)
    (hdb : (x == ("__debug__" : Str)) = false := by decide) (hcd : (x == ("__classdict__" : Str)) = false := by decide)
    (he : starEach (e :: es) X.env = (false, eval e X.env) :: starEach es X.env := by rfl) (hpl : (backTo pos (starEach es X.env)).any (·.1) = false := by rfl) :
    PE X (.Call (.Name x p) (e :: es) [] pos) (fun σ H Q => σ[i]? = some (some (.ref f)) ∧ t σ H fun vs H1 => sp vs H1 Q E) := by
  refine ⟨fun pins s σ H Q I h => ?_⟩
  obtain ⟨g1, g2⟩ := h
  refine wpAny_Call_Name_kw (thn ((pe_var (pos := p) hN hv hdb hcd).run pins s σ H (fun v H1 => v = .ref f ∧ H1 = H) I ⟨.ref f, g1, rfl, rfl⟩) fun u s1 ⟨v, H1, I1, r1, q1⟩ => ?_)
  obtain ⟨rfl, rfl⟩ := q1
  cases r1
  apply PySem.W.callWith_K (h₀ := X.base) I1.ok.mod.kin hk _ he hpl
  apply thn (ha.run pos pins s1 σ _ _ I1 g2)
  rintro us s2 ⟨vs, H2, I2, r, q⟩
  exact ⟨I2.kIn, run_G F hr hb hx I2 r q⟩
theorem evr_callL (i : Nat) (F : FnG X.prog X.w X.K X.mg X.base CX0 k f fd ps (PSp X.K n fs)) (hmo : MoF fs) (hr : RmG k X.A)
    (hk : PySem.W.keepIn X.K (.ref f) = true) (hb : Binds X.K fd ps []) (ha : EvA .cl X (e :: es) wa) (hN : X.N[i]? = some x := by rfl)
    (hv : Vis X.env.scope x := by first | exact Or.inl rfl | exact Or.inr (Or.inl rfl) | exact Or.inr (Or.inr rfl))
    (hdb : (x == ("__debug__" : Str)) = false := by decide) (hcd : (x == ("__classdict__" : Str)) = false := by decide)
    (he : starEach (e :: es) X.env = (false, eval e X.env) :: starEach es X.env := by rfl)
    (hpl : (backTo pos (starEach es X.env)).any (·.1) = false := by rfl) :
    EvR X (.Call (.Name x p) (e :: es) [] pos) (wCallL i f n fs wa) where
  pe := PE.weak (pe_callGL F hr hN hv hk hb pass0 ha.pa hdb hcd he hpl) fun σ H Q ⟨c, sd, os, hk, r, g, q⟩ => by
    obtain ⟨v, oa, h1, h2, h3, rfl⟩ := r.at_ g (by intro z; cases z)
    exact ⟨h1, c, sd, os, hk, r, ha.mo _ _ _ (fun as kq vs H1 x1 d1 => ⟨c.S, OO c os, as, (r.grow x1).srcNow, r.sO, (r.grow x1).ocNow, d1, kq.1, hmo _ _ _ (fun z kz v H' x2 rv =>
      kz v H' (x1.trans x2) (RvR.from r.sO (fun a m => (r.grow x1).there m) x1 rv)) kq.2⟩) q⟩
  mo := fun sd Q Q' k q => ⟨q.1, ha.mo _ _ _ (fun as z => ⟨z.1, hmo _ _ _ k z.2⟩) q.2⟩
end
end DL

set_option Elab.async false
set_option linter.all false
set_option maxRecDepth 100000
set_option maxHeartbeats 400000
/-! more rules: is True, not in, sum, the signs of a text, f(xs.pop()) by a name that is handed over -/
namespace DL
open PySem PySem.Spec PyProof.Rows L2
variable [Tb]
section
variable {X : Cx} {e a b : Expr} {es : List Expr} {m m1 m2 : Md} {pos p : Pos} {x : Str} {k n : Nat} {f : Addr} {fd : FuncData} {ps : List Str} {fs : FSp} {wa : WA}
theorem op_isB : OpR X (compareOp .Is) (fun x y H Q => ∃ b c, x = .bl b ∧ y = .bl c ∧ Q (.bl (b == c)) H) := by
  rintro pins s σ H x y v u Q I rx ry ⟨b, c, rfl, rfl, q⟩
  cases rx
  cases ry
  have e : ((Value.bool b == Value.bool c) : Bool) = (b == c) := by cases b <;> cases c <;> rfl
  show wpAny _ _ (do let z ← (pure (Value.bool b == Value.bool c) : Sem Bool); pure (Value.bool z)) _ _ _
  rw [e]
  exact wpAny_bind (wpAny_pure (wpAny_pure ⟨.bl (b == c), H, I, rfl, q⟩))
theorem op_isnotB : OpR X (compareOp .IsNot) (fun x y H Q => ∃ b c, x = .bl b ∧ y = .bl c ∧ Q (.bl (!(b == c))) H) := by
  rintro pins s σ H x y v u Q I rx ry ⟨b, c, rfl, rfl, q⟩
  cases rx
  cases ry
  have e : ((Value.bool b == Value.bool c) : Bool) = (b == c) := by cases b <;> cases c <;> rfl
  show wpAny _ _ (do let z ← (pure (Value.bool b == Value.bool c) : Sem Bool); pure (Value.bool !z)) _ _ _
  rw [e]
  exact wpAny_bind (wpAny_pure (wpAny_pure ⟨.bl (!(b == c)), H, I, rfl, q⟩))
def rdIsB (neg : Bool) : RD2 := fun d e Q => match d, e with
  | .bool i, .bool j => Q (.va (.bool (if neg then !(i == j) else i == j)))
  | _, _ => False
theorem rdIsB_mo {neg : Bool} : Mo2 (rdIsB neg) := by
  intro d e Q Q' k q
  unfold rdIsB at q ⊢
  split at q
  · exact k _ q
  · exact q.elim
theorem od_isB : OpD X (compareOp .Is) .sh .sh (rdIsB false) where
  ex := ⟨_, op_isB, fun S O H x y d e Q _ _ hx hy q => by
    unfold rdIsB at q
    split at q
    · exact ⟨_, _, shBl hx, shBl hy, q _ H (Same.refl H) (.bl _)⟩
    · exact q.elim⟩
  mo := rdIsB_mo
theorem od_isnotB : OpD X (compareOp .IsNot) .sh .sh (rdIsB true) where
  ex := ⟨_, op_isnotB, fun S O H x y d e Q _ _ hx hy q => by
    unfold rdIsB at q
    split at q
    · exact ⟨_, _, shBl hx, shBl hy, q _ H (Same.refl H) (.bl _)⟩
    · exact q.elim⟩
  mo := rdIsB_mo
theorem od_notIn (hu : X.A.units + 64 < cLine) : OpD X (compareOp .NotIn) .sh .sh (rdIn true) := ⟨⟨_, op_notIn_seq.or (op_notIn_dict (un1 hu)), br_in⟩, rdIn_mo⟩
/-! ### sum -/
def dSum (d : PyData) (Q : RV → Prop) : Prop := match d with
  | .list xs => ∃ ns : List Int, xs = ns.map PyData.int ∧ Q (.va (.int ns.sum))
  | _ => False
theorem all_ints {K : PySem.W.Frag} {H : Hp} : ∀ {vs : List V} {ns : List Int}, DxAll K H vs (ns.map PyData.int) → vs = ns.map V.int
  | _, [], .nil => rfl
  | _, n :: ns, .cons h t => by
    cases h
    rw [all_ints t]
    rfl
theorem cd_sum (hc : X.calm = true) : CallD X (.builtin "sum") .sh (rd1 dSum) where
  ex := ⟨_, cr_sum hc, rd1_br fun S O H x d Q hs hO hd q => by
    unfold dSum at q
    split at q
    · obtain ⟨ns, rfl, q⟩ := q
      obtain ⟨a, us, rfl, h1, h2⟩ := hd
      have e := all_ints h2
      subst e
      exact ⟨a, ns, rfl, .inl (.inl (hid_some h1).2), q _ H (Same.refl H) (.int _)⟩
    · exact q.elim⟩
  mo := rd1_mo fun d Q Q' k q => by
    unfold dSum at q ⊢
    split at q
    · obtain ⟨ns, e, q⟩ := q
      exact ⟨ns, e, k _ q⟩
    · exact q.elim
/-! ### the signs of a text -/
def signV (z : Str) : List V := z.cps.toList.map fun c => .str ⟨#[c]⟩
def signD (z : Str) : List PyData := z.cps.toList.map fun c => .str ⟨#[c]⟩
theorem sign_dx {K : PySem.W.Frag} {H : Hp} : ∀ cs : List Nat, DxAll K H (cs.map fun c => V.str ⟨#[c]⟩) (cs.map fun c => PyData.str ⟨#[c]⟩)
  | [] => .nil
  | c :: cs => .cons (.str _) (sign_dx cs)
theorem sign_vals : ∀ (cs : List Nat) (vs : List Value), vs.length = cs.length → (∀ (j : Nat) (v : Value), vs[j]? = some v → ∃ (c : Nat) (u : Tok), cs[j]? = some c ∧ v = Value.str ⟨#[c]⟩ u) → Vals (cs.map fun c => V.str ⟨#[c]⟩) vs
  | [], [], _, _ => .nil
  | [], _ :: _, h, _ => by cases h
  | _ :: _, [], h, _ => by cases h
  | c :: cs, v :: vs, h, k => by
    obtain ⟨c', u, e1, e2⟩ := k 0 v rfl
    cases e1
    exact .cons ⟨u, e2⟩ (sign_vals cs vs (Nat.succ.inj h) fun j w e => k (j + 1) w e)
theorem sign_ok {z : Str} {acc : Array Value} (h : ItemsOf (SignAt z) acc z.cps.size) : Vals (signV z) acc.toList := by
  refine sign_vals _ _ (by rw [Array.length_toList, Array.length_toList]; exact h.1) fun j v e => ?_
  rw [Array.getElem?_toList] at e
  obtain ⟨c, u, e1, e2⟩ := h.2 j v e
  exact ⟨c, u, by rw [Array.getElem?_toList]; exact e1, e2⟩
theorem call_list_txt (hc : X.calm = true) : CallR X (.type "list") (fun xs H Q => ∃ z, xs = [.str z] ∧ z.length ≤ sizeLine ∧ ∀ l, H l = none → Q (.ref l) (upd H l (.lst (signV z)))) := by
  rintro pins s σ H xs us Q I r ⟨z, rfl, hz, q⟩
  obtain ⟨u, rfl, rx⟩ := vals1 r
  obtain ⟨t, rfl⟩ := rx
  refine call_list_str (I.ok.hd hc) z t (fun h' tk acc c' kp e it => ?_) hz
  refine ⟨.ref s.heap.objs.size, upd H s.heap.objs.size (.lst (signV z)), Inv.laid I kp (Nat.le_refl _) ⟨?_, acc.toList, c', sign_ok it, by rw [Array.toArray_toList]; exact e⟩, rfl, q _ (HOk.fresh I.hok (Nat.le_refl _))⟩
  unfold signV
  rw [List.length_map, Array.length_toList]
  exact hz
theorem call_tuple_txt (hc : X.calm = true) : CallR X (.type "tuple") (fun xs H Q => ∃ z, xs = [.str z] ∧ z.length ≤ sizeLine ∧ ∀ l, H l = none → Q (.ref l) (upd H l (.tup (signV z)))) := by
  rintro pins s σ H xs us Q I r ⟨z, rfl, hz, q⟩
  obtain ⟨u, rfl, rx⟩ := vals1 r
  obtain ⟨t, rfl⟩ := rx
  refine call_tuple_str (I.ok.hd hc) z t (fun h' tk acc kp it => ?_) hz
  have I1 := Inv.kept (t' := tk) I kp
  have new : IsTup (h'.push { cls := .type "tuple", data := .seq acc }) h'.objs.size acc.toList.toArray := by
    rw [Array.toArray_toList]
    exact IsTup.new h' acc
  refine ⟨.ref h'.objs.size, upd H h'.objs.size (.tup (signV z)), Inv.laid (s := { heap := h', gens := s.gens, drawn := s.drawn, toks := tk, os := s.os }) (h' := h'.push { cls := .type "tuple", data := .seq acc }) I1 (fun b o e => Heap.get?_push_of_some _ e) (Nat.le_refl _) ⟨?_, acc.toList, sign_ok it, new⟩, rfl, q _ (HOk.fresh I1.hok (Nat.le_refl _))⟩
  unfold signV
  rw [List.length_map, Array.length_toList]
  exact hz
def dListS (d : PyData) (Q : RV → Prop) : Prop := match d with
  | .str z => z.length ≤ sizeLine ∧ Q (.fr (signD z))
  | _ => False
def dTupleS (d : PyData) (Q : RV → Prop) : Prop := match d with
  | .str z => z.length ≤ sizeLine ∧ Q (.va (.tuple (signD z)))
  | _ => False
theorem cd_listS (hc : X.calm = true) : CallD X (.type "list") .sh (rd1 dListS) where
  ex := ⟨_, call_list_txt hc, rd1_br fun S O H x d Q hs hO hd q => by
    unfold dListS at q
    split at q
    · exact ⟨_, by rw [shStr hd], q.1, fun p hp => q.2 _ _ (same_new hp) (rv_lst hp (sign_dx _))⟩
    · exact q.elim⟩
  mo := rd1_mo fun d Q Q' k q => by
    unfold dListS at q ⊢
    split at q <;> first | exact ⟨q.1, k _ q.2⟩ | exact q.elim
theorem cd_tupleS (hc : X.calm = true) : CallD X (.type "tuple") .sh (rd1 dTupleS) where
  ex := ⟨_, call_tuple_txt hc, rd1_br fun S O H x d Q hs hO hd q => by
    unfold dTupleS at q
    split at q
    · exact ⟨_, by rw [shStr hd], q.1, fun p hp => q.2 _ _ (same_new hp) (rv_tup hp hO (sign_dx _))⟩
    · exact q.elim⟩
  mo := rd1_mo fun d Q Q' k q => by
    unfold dTupleS at q ⊢
    split at q <;> first | exact ⟨q.1, k _ q.2⟩ | exact q.elim
/-! ### name(an expression that changes lists of one's own), name holding a def that is handed over -/
theorem evm_callL1 {we : WM} (i : Nat) (F : FnG X.prog X.w X.K X.mg X.base CX0 k f fd ps (PSp X.K n fs)) (hmo : MoF fs) (hr : RmG k X.A)
    (hk : PySem.W.keepIn X.K (.ref f) = true) (hb : Binds X.K fd ps []) (h : EvM X e we) (hN : X.N[i]? = some x := by rfl)
    (hv : Vis X.env.scope x := by first | exact Or.inl rfl | exact Or.inr (Or.inl rfl) | exact Or.inr (Or.inr rfl)) (hn : 1 = n := by rfl)
    (hdb : (x == ("__debug__" : Str)) = false := by decide) (hcd : (x == ("__classdict__" : Str)) = false := by decide)
    (he : starEach [e] X.env = (false, eval e X.env) :: starEach [] X.env := by rfl)
    (hpl : (backTo pos (starEach [] X.env)).any (·.1) = false := by rfl) :
    EvM X (.Call (.Name x p) [e] [] pos) (fun sd Q => getS sd i = .fn f ∧ we sd fun z sd' => fs [.va z.dat] fun r => Q r sd') where
  pe := PE.weak (pe_callGL F hr hN hv hk hb pass0 (pa_cons h.pe pa_nil he) hdb hcd he hpl) fun σ H Q ⟨c, sd, os, hk, r, g, q⟩ => by
    obtain ⟨v, oa, h1, h2, h3, rfl⟩ := r.at_ g (by intro z; cases z)
    exact ⟨h1, c, sd, os, hk, r, h.mo _ _ _ (fun z sd' kz v H1 H' os' r1 x1 rv => by
      have r2 := r1.grow x1
      refine ⟨c.S, OO c os', [.va z.dat], r2.srcNow, r1.sO, r2.ocNow, .va (RvR.cl rv fun b m => r1.there m) .nil, hn, hmo _ _ _ (fun y ky u H2 x2 rv2 => ?_) kz⟩
      exact ky u H' H2 os' r2 x2 rv2) q⟩
  mo := fun sd Q Q' k q => ⟨q.1, h.mo _ _ _ (fun z s y => hmo _ _ _ (fun r y => k _ _ y) y) q.2⟩
/-! ### rows walked in a comprehension -/
theorem lcW_rows {α : Type} {g : WG} {t : WB} {we : WR} {sd : SD} (to : α → PyData) (f : α → PyData) : ∀ (rs : List α) (Q : List PyData → Prop),
    (∀ r ∈ rs, ∀ (A : PyData → Prop) (B : Prop), A (f r) → g (to r) sd fun sd2 => t sd2 fun b => if b = true then we sd2 (fun z => A z.dat) else B) →
    Q (rs.map f) → lcW g t we sd (rs.map to) Q
  | [], Q, _, q => q
  | r :: rs, Q, h, q => by
    refine h r List.mem_cons_self (fun x => lcW g t we sd (rs.map to) fun out => Q (x :: out)) _ ?_
    exact lcW_rows to f rs _ (fun e m => h e (List.mem_cons_of_mem _ m)) q
end
end DL

set_option Elab.async false
set_option linter.all false
set_option maxRecDepth 100000
set_option maxHeartbeats 400000
/-! rules whose readings reckon by themselves: isinstance, items at written places, ==, in -/
namespace DL
open PySem PySem.Spec PyProof.Rows L2
variable [Tb]
section
variable {X : Cx} {e a b : Expr} {es : List Expr} {m m1 m2 : Md} {pos p : Pos} {x : Str}
theorem EvR.imp {w w' : WR} (h : EvR X e w) (k : ∀ sd Q, w' sd Q → w sd Q) (mo : ∀ sd (Q Q' : RV → Prop), (∀ r, Q r → Q' r) → w' sd Q → w' sd Q') : EvR X e w' where
  pe := PE.weak h.pe fun σ H Q ⟨c, sd, os, hk, r, q⟩ => ⟨c, sd, os, hk, r, k _ _ q⟩
  mo := mo
theorem EvT.imp {w w' : WB} (h : EvT X e w) (k : ∀ sd Q, w' sd Q → w sd Q) (mo : ∀ sd (Q Q' : Bool → Prop), (∀ r, Q r → Q' r) → w' sd Q → w' sd Q') : EvT X e w' where
  pt := PT.weak h.pt fun σ H Q ⟨c, sd, os, hk, r, q⟩ => ⟨c, sd, os, hk, r, k _ _ q⟩
  mo := mo
/-! ### isinstance -/
def isStrD : PyData → Bool | .str _ => true | _ => false
def isTupD : PyData → Bool | .tuple _ => true | _ => false
def isLstD : PyData → Bool | .list _ => true | _ => false
def isDctD : PyData → Bool | .dict _ => true | _ => false
def isBooD : PyData → Bool | .bool _ => true | _ => false
def isIntD : PyData → Bool | .int _ => true | .bool _ => true | _ => false
theorem kit_str (d : PyData) : kitB (tyN d) "str" = some (isStrD d) := by cases d <;> (simp only [tyN, isStrD]; decide +kernel)
theorem kit_tup (d : PyData) : kitB (tyN d) "tuple" = some (isTupD d) := by cases d <;> (simp only [tyN, isTupD]; decide +kernel)
theorem kit_lst (d : PyData) : kitB (tyN d) "list" = some (isLstD d) := by cases d <;> (simp only [tyN, isLstD]; decide +kernel)
theorem kit_dct (d : PyData) : kitB (tyN d) "dict" = some (isDctD d) := by cases d <;> (simp only [tyN, isDctD]; decide +kernel)
theorem kit_boo (d : PyData) : kitB (tyN d) "bool" = some (isBooD d) := by cases d <;> (simp only [tyN, isBooD]; decide +kernel)
theorem kit_int (d : PyData) : kitB (tyN d) "int" = some (isIntD d) := by cases d <;> (simp only [tyN, isIntD]; decide +kernel)
def wIs (f : PyData → Bool) (w : WD) : WR := fun sd Q => w sd fun d => Q (.va (.bool (f d)))
theorem evr_is {w : WD} {p2 : Pos} (T : String) (tx : Str) {f : PyData → Bool} (k : ∀ d, kitB (tyN d) T = some (f d)) (h : Ev .bo X e w) (hm : X.mg "isinstance" = none) (hmt : X.mg tx = none) (hv : bootBuiltins "isinstance" = some (.builtin "isinstance")) (hvt : bootBuiltins tx = some (.type T))
    (hg : Gl X "isinstance" := by rfl) (hgt : Gl X tx := by rfl) (hn : tx ≠ "__name__" := by decide) (hdb : (tx == ("__debug__" : Str)) = false := by decide)
    (h1 : starEach [e, .Name tx p2] X.env = (false, eval e X.env) :: starEach [.Name tx p2] X.env := by rfl) (h2 : starEach [.Name tx p2] X.env = (false, eval (.Name tx p2) X.env) :: starEach [] X.env := by rfl)
    (hpl : (backTo pos (starEach [.Name tx p2] X.env)).any (·.1) = false := by rfl) :
    EvR X (.Call (.Name "isinstance" p) [e, .Name tx p2] [] pos) (wIs f w) :=
  (evr_isi T tx h hm hmt hv hvt hg hgt hn hdb h1 h2 hpl).imp (fun sd Q q => h.mo _ _ _ (fun d z => by show match kitB (tyN d) T with | some b => Q (.va (.bool b)) | none => False; rw [k]; exact z) q)
    (fun sd Q Q' k q => h.mo _ _ _ (fun d z => k _ z) q)
/-! ### items at written places -/
def nthD : List PyData → Nat → Option PyData
  | [], _ => none
  | d :: _, 0 => some d
  | _ :: ds, n + 1 => nthD ds n
theorem nthD_atI : ∀ (ds : List PyData) (n : Nat), atI ds (n : Int) = nthD ds n := by
  intro ds n
  have key : ∀ (ds : List PyData) (n : Nat), nthD ds n = ds[n]? := by
    intro ds
    induction ds with
    | nil => intro n; simp [nthD]
    | cons d ds ih =>
      intro n
      cases n with
      | zero => rfl
      | succ n => simp [nthD, ih]
  rw [key]
  cases h : ds[n]? with
  | some v => exact L2.atI_nat h
  | none =>
    unfold atI ixN
    have hl : ds.length ≤ n := by rw [List.getElem?_eq_none_iff] at h; exact h
    rw [if_pos (by omega), if_neg (by omega)]
    rfl
def ixC (n : Nat) (d : PyData) (Q : RV → Prop) : Prop := match d with
  | .list xs => match nthD xs n with
    | some v => Q (.va v)
    | none => False
  | .tuple xs => match nthD xs n with
    | some v => Q (.va v)
    | none => False
  | .str z => z.length ≤ sizeLine ∧ match atI z.cps.toList n with
    | some c => Q (.va (.str ⟨#[c]⟩))
    | none => False
  | _ => False
theorem ixC_mo {n : Nat} {d : PyData} {Q Q' : RV → Prop} (k : ∀ r, Q r → Q' r) (q : ixC n d Q) : ixC n d Q' := by
  unfold ixC at q ⊢
  split at q
  · split at q
    · exact k _ q
    · exact q.elim
  · split at q
    · exact k _ q
    · exact q.elim
  · refine ⟨q.1, ?_⟩
    have q2 := q.2
    split at q2
    · exact k _ q2
    · exact q2.elim
  · exact q.elim
def wIxC (n : Nat) (w : WD) : WR := fun sd Q => w sd fun d => ixC n d Q
theorem ixC_rd {n : Nat} {d : PyData} {Q : RV → Prop} (q : ixC n d Q) : rdIxS d (.int (n : Int)) Q := by
  unfold ixC at q
  unfold rdIxS
  cases d with
  | list xs => simp only at q ⊢; rw [nthD_atI]; exact q
  | tuple xs => simp only at q ⊢; rw [nthD_atI]; exact q
  | str z => exact q
  | none => exact q.elim
  | bool b => exact q.elim
  | int i => exact q.elim
  | dict k => exact q.elim
theorem evr_ixC {w : WD} {j : Nat} {p1 : Pos} (n : Nat) (h : Ev .sh X a w) : EvR X (.Subscript a (.Constant (.int (n : Int)) j p1) pos) (wIxC n w) :=
  (evr_ix id_ixS h ev_int).imp (fun sd Q q => h.mo _ _ _ (fun d z => ixC_rd z) q) (fun sd Q Q' k q => h.mo _ _ _ (fun d z => ixC_mo k z) q)
/-! ### == -/
def dEq (d e : PyData) (Q : Bool → Prop) : Prop := match d, e with
  | .int i, .int j => Q (decide (i = j))
  | .str i, .str j => Q (decide (i = j))
  | .none, .none => Q true
  | .bool i, .bool j => Q (decide (i = j))
  | .none, .str _ => Q false
  | .str _, .none => Q false
  | .none, .int _ => Q false
  | .int _, .none => Q false
  | .int _, .str _ => Q false
  | .str _, .int _ => Q false
  | d, e => (SeqAt.shaped d = true ∧ SeqAt.shaped e = true) ∧ Q (PyData.eqv d e)
def rdEq2 (neg : Bool) : RD2 := fun d e Q => dEq d e fun b => Q (.va (.bool (if neg then !b else b)))
theorem dEq_mo {d e : PyData} {Q Q' : Bool → Prop} (k : ∀ r, Q r → Q' r) (q : dEq d e Q) : dEq d e Q' := by
  unfold dEq at q ⊢
  split at q <;> first | exact k _ q | exact ⟨q.1, k _ q.2⟩
theorem rdEq2_mo {n : Bool} : Mo2 (rdEq2 n) := fun d e Q Q' k q => dEq_mo (fun r z => k _ z) q
theorem boInt {K : PySem.W.Frag} {S O : List Addr} {H : Hp} {x : V} {i : Int} (h : DM .bo K S O H x (.int i)) : x = .int i := by cases h; rfl
theorem boStr {K : PySem.W.Frag} {S O : List Addr} {H : Hp} {x : V} {i : Str} (h : DM .bo K S O H x (.str i)) : x = .str i := by cases h; rfl
theorem boBl {K : PySem.W.Frag} {S O : List Addr} {H : Hp} {x : V} {i : Bool} (h : DM .bo K S O H x (.bool i)) : x = .bl i := by cases h; rfl
theorem boNon {K : PySem.W.Frag} {S O : List Addr} {H : Hp} {x : V} (h : DM .bo K S O H x .none) : x = .non := by cases h; rfl
theorem br_eq2 {K : PySem.W.Frag} : Br2 K .bo .bo (fun x y H Q => rEq x y H Q ∨ rEqD K x y H Q) (rdEq2 false) := by
  intro S O H x y d e Q hs hO hx hy q
  unfold rdEq2 dEq at q
  split at q
  · rw [boInt hx, boInt hy]; exact .inl ⟨rfl, by simpa using q _ H (Same.refl H) (.bl _)⟩
  · rw [boStr hx, boStr hy]; exact .inl ⟨rfl, by simpa using q _ H (Same.refl H) (.bl _)⟩
  · rw [boNon hx, boNon hy]; exact .inl ⟨rfl, by simpa using q _ H (Same.refl H) (.bl _)⟩
  · rw [boBl hx, boBl hy]; exact .inl ⟨rfl, by simpa using q _ H (Same.refl H) (.bl _)⟩
  · rw [boNon hx, boStr hy]; exact .inl ⟨rfl, by simpa using q _ H (Same.refl H) (.bl _)⟩
  · rw [boStr hx, boNon hy]; exact .inl ⟨rfl, by simpa using q _ H (Same.refl H) (.bl _)⟩
  · rw [boNon hx, boInt hy]; exact .inl ⟨rfl, by simpa using q _ H (Same.refl H) (.bl _)⟩
  · rw [boInt hx, boNon hy]; exact .inl ⟨rfl, by simpa using q _ H (Same.refl H) (.bl _)⟩
  · rw [boInt hx, boStr hy]; exact .inl ⟨rfl, by simpa using q _ H (Same.refl H) (.bl _)⟩
  · rw [boStr hx, boInt hy]; exact .inl ⟨rfl, by simpa using q _ H (Same.refl H) (.bl _)⟩
  · exact .inr ⟨_, _, boDp hx q.1.1, boDp hy q.1.2, q.1.1, q.1.2, q.2 _ H (Same.refl H) (.bl _)⟩
theorem br_ne2 {K : PySem.W.Frag} : Br2 K .bo .bo (fun x y H Q => rNe x y H Q ∨ rNeD K x y H Q) (rdEq2 true) := by
  intro S O H x y d e Q hs hO hx hy q
  unfold rdEq2 dEq at q
  split at q
  · rw [boInt hx, boInt hy]; exact .inl ⟨rfl, by simpa using q _ H (Same.refl H) (.bl _)⟩
  · rw [boStr hx, boStr hy]; exact .inl ⟨rfl, by simpa using q _ H (Same.refl H) (.bl _)⟩
  · rw [boNon hx, boNon hy]; exact .inl ⟨rfl, by simpa using q _ H (Same.refl H) (.bl _)⟩
  · rw [boBl hx, boBl hy]; exact .inl ⟨rfl, by simpa using q _ H (Same.refl H) (.bl _)⟩
  · rw [boNon hx, boStr hy]; exact .inl ⟨rfl, by simpa using q _ H (Same.refl H) (.bl _)⟩
  · rw [boStr hx, boNon hy]; exact .inl ⟨rfl, by simpa using q _ H (Same.refl H) (.bl _)⟩
  · rw [boNon hx, boInt hy]; exact .inl ⟨rfl, by simpa using q _ H (Same.refl H) (.bl _)⟩
  · rw [boInt hx, boNon hy]; exact .inl ⟨rfl, by simpa using q _ H (Same.refl H) (.bl _)⟩
  · rw [boInt hx, boStr hy]; exact .inl ⟨rfl, by simpa using q _ H (Same.refl H) (.bl _)⟩
  · rw [boStr hx, boInt hy]; exact .inl ⟨rfl, by simpa using q _ H (Same.refl H) (.bl _)⟩
  · exact .inr ⟨_, _, boDp hx q.1.1, boDp hy q.1.2, q.1.1, q.1.2, q.2 _ H (Same.refl H) (.bl _)⟩
theorem od_eq2 (hu : X.A.units + 64 < cLine) : OpD X (compareOp .Eq) .bo .bo (rdEq2 false) := ⟨⟨_, op_eq.or (op_eqD hu), br_eq2⟩, rdEq2_mo⟩
theorem od_ne2 (hu : X.A.units + 64 < cLine) : OpD X (compareOp .NotEq) .bo .bo (rdEq2 true) := ⟨⟨_, op_ne.or (op_neD hu), br_ne2⟩, rdEq2_mo⟩
/-! ### -n -/
def wNeg (w : WD) : WR := fun sd Q => w sd fun d => match d with
  | .int i => Q (.va (.int (-i)))
  | _ => False
theorem evr_neg {w : WD} (h : Ev .sh X a w) : EvR X (.UnaryOp .USub a pos) (wNeg w) where
  pe := PE.weak (pe_un un_neg h.pe) fun σ H Q ⟨c, sd, os, hk, r, q⟩ => ⟨c, sd, os, hk, r, h.mo _ _ _ (fun d k v H1 x1 dm => by
    cases d with
    | int i => exact ⟨i, shInt dm, k _ H1 x1 (.int _)⟩
    | _ => exact k.elim) q⟩
  mo := fun sd Q Q' k q => h.mo _ _ _ (fun d z => by
    cases d with
    | int i => exact k _ z
    | _ => exact z.elim) q
end
end DL

set_option Elab.async false
set_option linter.all false
set_option maxRecDepth 100000
set_option maxHeartbeats 400000
/-! things with parts, and rows as such things -/
namespace DL
open PySem PySem.Spec PyProof.Rows L2
variable [Tb]
/-- a thing's data and its parts -/
inductive Rose where
  | node (d : PyData) (cs : List Rose)
def Rose.d : Rose → PyData | .node d _ => d
def Rose.cs : Rose → List Rose | .node _ cs => cs
mutual
def Rose.many : Rose → Nat | .node _ cs => 1 + Rose.manyL cs
def Rose.manyL : List Rose → Nat | [] => 0 | c :: cs => c.many + Rose.manyL cs
end
mutual
/-- a thing's parts in order, what stands in a part ahead of it, last itself -/
def Rose.inner : Rose → List Rose | .node d cs => Rose.innerL cs ++ [.node d cs]
def Rose.innerL : List Rose → List Rose | [] => [] | c :: cs => c.inner ++ Rose.innerL cs
end
theorem Rose.many_eq (t : Rose) : t.many = 1 + Rose.manyL t.cs := by cases t; simp only [Rose.many, Rose.cs]
theorem Rose.inner_eq (t : Rose) : t.inner = Rose.innerL t.cs ++ [t] := by cases t; simp only [Rose.inner, Rose.cs]
theorem Rose.innerL_app : ∀ xs ys : List Rose, Rose.innerL (xs ++ ys) = Rose.innerL xs ++ Rose.innerL ys
  | [], _ => rfl
  | x :: xs, ys => by simp only [List.cons_append, Rose.innerL, Rose.innerL_app xs ys, List.append_assoc]
theorem Rose.manyL_app : ∀ xs ys : List Rose, Rose.manyL (xs ++ ys) = Rose.manyL xs + Rose.manyL ys
  | [], _ => by simp only [List.nil_append, Rose.manyL, Nat.zero_add]
  | x :: xs, ys => by simp only [List.cons_append, Rose.manyL, Rose.manyL_app xs ys, Nat.add_assoc]
mutual
theorem Rose.inner_len : ∀ t : Rose, t.inner.length = t.many
  | .node d cs => by simp only [Rose.inner, Rose.many, List.length_append, Rose.innerL_len cs, List.length_cons, List.length_nil]; omega
theorem Rose.innerL_len : ∀ ts : List Rose, (Rose.innerL ts).length = Rose.manyL ts
  | [] => rfl
  | t :: ts => by simp only [Rose.innerL, Rose.manyL, List.length_append, Rose.inner_len t, Rose.innerL_len ts]
end
theorem Rose.len_le : ∀ ts : List Rose, ts.length ≤ Rose.manyL ts
  | [] => Nat.le_refl _
  | t :: ts => by
    have := Rose.len_le ts
    have := t.many_eq
    simp only [List.length_cons, Rose.manyL]; omega
/-- a def that tells a thing's parts -/
def fsNode (ok : Rose → Prop) : FSp := fun as Q => ∃ t : Rose, ok t ∧ as = [.va t.d] ∧ ∀ d : PyData, (d = .list (t.cs.map Rose.d) ∨ d = .tuple (t.cs.map Rose.d)) → ∀ z : RV, z.dat = d → Q z
theorem moNode {ok : Rose → Prop} : MoF (fsNode ok) := fun as Q Q' k ⟨t, h1, h2, h3⟩ => ⟨t, h1, h2, fun d e z f => k _ (h3 d e z f)⟩
def Her (ok : Rose → Prop) : Prop := ∀ t, ok t → ∀ c ∈ t.cs, ok c
def fs_inner_first (f : Addr) (ok : Rose → Prop) : FSp := fun as Q => ∃ t : Rose, ok t ∧ t.many ≤ 1000000 ∧ as = [.va t.d, .fn f] ∧ Q (.fr (t.inner.map Rose.d))
theorem mo_inner_first {f : Addr} {ok : Rose → Prop} : MoF (fs_inner_first f ok) := fun as Q Q' k ⟨t, h1, h2, h3, h4⟩ => ⟨t, h1, h2, h3, k _ h4⟩
/-- the loop's middle: what waits, from behind -/
theorem inner_step (t : Rose) (init : List Rose) : (Rose.innerL (init ++ [t])) = Rose.innerL (init ++ t.cs) ++ [t] := by
  rw [Rose.innerL_app, Rose.innerL_app, List.append_assoc]
  simp only [Rose.innerL, List.append_nil]
  rw [t.inner_eq]
theorem many_step (t : Rose) (init : List Rose) : Rose.manyL (init ++ [t]) = Rose.manyL (init ++ t.cs) + 1 := by
  rw [Rose.manyL_app, Rose.manyL_app]
  simp only [Rose.manyL]
  have := t.many_eq
  omega
theorem z1 : (1 : Nat) ≤ sizeLine := by decide
/-! ### rows -/
def Rw.parts : Rw → List Rw
  | .let _ => []
  | .join rs => rs
  | .right r => [r]
  | .left r => [r]
  | .mix rs => rs
mutual
def Rw.wf : Rw → Bool
  | .let _ => true
  | .join rs => decide (2 ≤ rs.length) && Rw.wfL rs
  | .right r => r.wf
  | .left r => r.wf
  | .mix rs => decide (1 ≤ rs.length) && Rw.wfL rs
def Rw.wfL : List Rw → Bool
  | [] => true
  | r :: rs => r.wf && Rw.wfL rs
end
theorem Rw.wfL_iff : ∀ rs : List Rw, Rw.wfL rs = true ↔ ∀ r ∈ rs, r.wf = true
  | [] => by simp [Rw.wfL]
  | r :: rs => by simp [Rw.wfL, Rw.wfL_iff rs]
theorem Rw.wf_parts (r : Rw) (h : r.wf = true) : ∀ s ∈ r.parts, s.wf = true := by
  cases r with
  | «let» c => intro s m; cases m
  | join rs => simp only [Rw.wf, Bool.and_eq_true] at h; exact (Rw.wfL_iff rs).mp h.2
  | right r => intro s m; simp only [Rw.parts, List.mem_singleton] at m; subst m; simpa only [Rw.wf] using h
  | left r => intro s m; simp only [Rw.parts, List.mem_singleton] at m; subst m; simpa only [Rw.wf] using h
  | mix rs => simp only [Rw.wf, Bool.and_eq_true] at h; exact (Rw.wfL_iff rs).mp h.2
theorem Rw.nodes_eq (r : Rw) : r.nodes = 1 + Rw.nodesL r.parts := by
  cases r <;> simp only [Rw.nodes, Rw.parts, Rw.nodesL] <;> omega
theorem Rw.dep_parts (r : Rw) : ∀ s ∈ r.parts, s.dep < r.dep := by
  cases r with
  | «let» c => intro s m; cases m
  | join rs => intro s m; have := Rw.dep_mem (rs := rs) m; simp only [Rw.dep]; omega
  | right r => intro s m; simp only [Rw.parts, List.mem_singleton] at m; subst m; simp only [Rw.dep]; omega
  | left r => intro s m; simp only [Rw.parts, List.mem_singleton] at m; subst m; simp only [Rw.dep]; omega
  | mix rs => intro s m; have := Rw.dep_mem (rs := rs) m; simp only [Rw.dep]; omega
mutual
def Rw.rose : Rw → Rose
  | .let c => .node (Rw.let c).toD []
  | .join rs => .node (Rw.join rs).toD (Rw.roseL rs)
  | .right r => .node (Rw.right r).toD [r.rose]
  | .left r => .node (Rw.left r).toD [r.rose]
  | .mix rs => .node (Rw.mix rs).toD (Rw.roseL rs)
def Rw.roseL : List Rw → List Rose
  | [] => []
  | r :: rs => r.rose :: Rw.roseL rs
end
theorem Rw.roseL_eq : ∀ rs : List Rw, Rw.roseL rs = rs.map Rw.rose
  | [] => rfl
  | r :: rs => by simp only [Rw.roseL, List.map_cons, Rw.roseL_eq rs]
theorem Rw.rose_d (r : Rw) : r.rose.d = r.toD := by cases r <;> simp only [Rw.rose, Rose.d]
theorem Rw.rose_cs (r : Rw) : r.rose.cs = r.parts.map Rw.rose := by
  cases r <;> simp only [Rw.rose, Rose.cs, Rw.parts, Rw.roseL_eq, List.map_nil, List.map_cons]
theorem Rw.rose_map (rs : List Rw) : (rs.map Rw.rose).map Rose.d = rs.map Rw.toD := by
  rw [List.map_map]
  exact List.map_congr_left fun r _ => r.rose_d
mutual
theorem Rw.rose_many : ∀ r : Rw, r.rose.many = r.nodes
  | .let c => by simp only [Rw.rose, Rose.many, Rw.nodes, Rose.manyL]
  | .join rs => by simp only [Rw.rose, Rose.many, Rw.nodes, Rw.roseL_many rs]
  | .right r => by simp only [Rw.rose, Rose.many, Rw.nodes, Rose.manyL, Rw.rose_many r, Nat.add_zero]
  | .left r => by simp only [Rw.rose, Rose.many, Rw.nodes, Rose.manyL, Rw.rose_many r, Nat.add_zero]
  | .mix rs => by simp only [Rw.rose, Rose.many, Rw.nodes, Rw.roseL_many rs]
theorem Rw.roseL_many : ∀ rs : List Rw, Rose.manyL (Rw.roseL rs) = Rw.nodesL rs
  | [] => rfl
  | r :: rs => by simp only [Rw.roseL, Rose.manyL, Rw.nodesL, Rw.rose_many r, Rw.roseL_many rs]
end
/-- things that are rows -/
def okRow (t : Rose) : Prop := ∃ r : Rw, t = r.rose ∧ r.wf = true
theorem her_row : Her okRow := by
  rintro t ⟨r, rfl, h⟩ c m
  rw [r.rose_cs] at m
  obtain ⟨s, ms, rfl⟩ := List.mem_map.mp m
  exact ⟨s, rfl, r.wf_parts h s ms⟩
def PyData.tupD : PyData → List PyData | .tuple ds => ds | _ => []
/-! ### words -/
theorem nLR : ¬ sL = sR := by decide +kernel
theorem nMR : ¬ sM = sR := by decide +kernel
theorem nRL : ¬ sR = sL := by decide +kernel
theorem nML' : ¬ sM = sL := by decide +kernel
theorem nJR' : ¬ sJ = sR := by decide +kernel
theorem nJL' : ¬ sJ = sL := by decide +kernel
theorem nJM' : ¬ sJ = sM := by decide +kernel
theorem nRM : ¬ sR = sM := by decide +kernel
theorem nLM' : ¬ sL = sM := by decide +kernel
theorem dw (s : Str) : decide (s = s) = true := decide_eq_true rfl
theorem wds (w : Str) (a b : Str) : (List.any [PyData.str a, PyData.str b] fun y => PyData.eqv y (.str w)) = (decide (a = w) || (decide (b = w) || false)) := by
  simp only [List.any_cons, List.any_nil, eqv_str]
theorem eqvS (a b : Str) : PyData.eqv (.str a) (.str b) = decide (a = b) := eqv_str a b
theorem bind_of {W : WR} {sd : SD} {Q : RV → Prop} (P : RV → Prop) (h : ∀ Q' : RV → Prop, (∀ z, P z → Q' z) → W sd Q') (q : ∀ z, P z → Q z) : W sd Q := h Q q
theorem ite3 {c : Prop} {inst : Decidable c} {a b : Prop} (h1 : c → a) (h2 : ¬ c → b) : @ite Prop c inst a b := by
  by_cases h : c
  · rw [if_pos h]; exact h1 h
  · rw [if_neg h]; exact h2 h
theorem wJR : decide (sJ = sR) = false := by decide +kernel
theorem wJL : decide (sJ = sL) = false := by decide +kernel
theorem wJM : decide (sJ = sM) = false := by decide +kernel
theorem wRJ : decide (sR = sJ) = false := by decide +kernel
theorem wRL : decide (sR = sL) = false := by decide +kernel
theorem wRM : decide (sR = sM) = false := by decide +kernel
theorem wLJ : decide (sL = sJ) = false := by decide +kernel
theorem wLR : decide (sL = sR) = false := by decide +kernel
theorem wLM : decide (sL = sM) = false := by decide +kernel
theorem wMJ : decide (sM = sJ) = false := by decide +kernel
theorem wMR : decide (sM = sR) = false := by decide +kernel
theorem wML : decide (sM = sL) = false := by decide +kernel
theorem nodes_sum (r : Rw) : (1 : Int) + (r.parts.map fun s => (s.nodes : Int)).sum = r.nodes := by
  have key : ∀ rs : List Rw, (rs.map fun s => (s.nodes : Int)).sum = (Rw.nodesL rs : Int) := by
    intro rs
    induction rs with
    | nil => rfl
    | cons s rs ih => simp only [List.map_cons, List.sum_cons, ih, Rw.nodesL]; omega
  rw [key, r.nodes_eq]
  omega
theorem Rw.nodes_mem : ∀ {rs : List Rw} {r : Rw}, r ∈ rs → r.nodes ≤ Rw.nodesL rs
  | [], _, m => by cases m
  | s :: rs, r, m => by
    simp only [Rw.nodesL]
    rcases List.mem_cons.mp m with rfl | m
    · omega
    · have := Rw.nodes_mem m
      omega
mutual
theorem Rw.noL : ∀ r : Rw, DL.noL r.toD = true
  | .let c => rfl
  | .join rs => by simp only [Rw.toD, DL.noL, noLs, Rw.noLL rs, Bool.and_self]
  | .right r => by simp only [Rw.toD, DL.noL, noLs, Rw.noL r, Bool.and_self]
  | .left r => by simp only [Rw.toD, DL.noL, noLs, Rw.noL r, Bool.and_self]
  | .mix rs => by simp only [Rw.toD, DL.noL, noLs, Rw.noLL rs, Bool.and_self]
theorem Rw.noLL : ∀ rs : List Rw, noLs (Rw.toDs rs) = true
  | [] => rfl
  | r :: rs => by simp only [Rw.toDs, noLs, Rw.noL r, Rw.noLL rs, Bool.and_self]
end
structure Good (d : PyData) : Prop where
  show_ : okShow d
  sh : SeqAt.shaped d = true
  txt : SeqAt.shaped (.str d.shown) = true
  eq : PyData.eqv d d = true
theorem good_row (r : Rw) (h : r.dep ≤ 32) (hn : r.nodes ≤ 100000) : Good r.toD := ⟨r.okShow h hn, r.sh h, sh_str r.ok_shown, r.eqv_self⟩
theorem good_non : Good .none := ⟨okShow_non, sh_non, sh_str ok_shownN, eqv_non⟩
theorem nq {a : Str} : ¬ ((!decide (a = a)) = true) := by simp
theorem nqi {a : Int} : ¬ ((!decide (a = a)) = true) := by simp
theorem nqe {d : PyData} (h : PyData.eqv d d = true) : ¬ ((!PyData.eqv d d) = true) := by rw [h]; decide
/-- == of a tuple and of anything -/
theorem dEq_tup {ds : List PyData} {e : PyData} {Q : Bool → Prop} (h1 : SeqAt.shaped (.tuple ds) = true) (h2 : SeqAt.shaped e = true) (q : Q (PyData.eqv (.tuple ds) e)) : dEq (.tuple ds) e Q := by
  unfold dEq; exact ⟨⟨h1, h2⟩, q⟩
theorem dEq_lst {ds : List PyData} {e : PyData} {Q : Bool → Prop} (h1 : SeqAt.shaped (.list ds) = true) (h2 : SeqAt.shaped e = true) (q : Q (PyData.eqv (.list ds) e)) : dEq (.list ds) e Q := by
  unfold dEq; exact ⟨⟨h1, h2⟩, q⟩
/-- == of data that are the same -/
theorem dEq_same {d : PyData} {Q : Bool → Prop} (h : SeqAt.shaped d = true) (e : PyData.eqv d d = true) (q : Q true) : dEq d d Q := by
  cases d <;> simp only [dEq] <;> first | exact q | (rw [e]; exact ⟨⟨h, h⟩, q⟩) | (simpa using q)
theorem ixC_lst {n : Nat} {xs : List PyData} {v : PyData} {Q : RV → Prop} (h : nthD xs n = some v) (q : Q (.va v)) : ixC n (.list xs) Q := by
  simp only [ixC, h]; exact q
theorem ixC_tup {n : Nat} {xs : List PyData} {v : PyData} {Q : RV → Prop} (h : nthD xs n = some v) (q : Q (.va v)) : ixC n (.tuple xs) Q := by
  simp only [ixC, h]; exact q
theorem head_of {rs : List Rw} (h : 0 < rs.length) : ∃ r ∈ rs, nthD (rs.map Rw.toD) 0 = some r.toD := by
  cases rs with
  | nil => simp at h
  | cons r rest => exact ⟨r, List.mem_cons_self, rfl⟩
theorem wf_mem {rs : List Rw} (h : Rw.wfL rs = true) {r : Rw} (m : r ∈ rs) : r.wf = true := (Rw.wfL_iff rs).mp h r m
mutual
theorem dep_nodes : ∀ r : Rw, r.dep ≤ r.nodes
  | .let c => by simp only [Rw.dep]; omega
  | .join rs => by have := dep_nodesL rs; simp only [Rw.dep, Rw.nodes]; omega
  | .right r => by have := dep_nodes r; simp only [Rw.dep, Rw.nodes]; omega
  | .left r => by have := dep_nodes r; simp only [Rw.dep, Rw.nodes]; omega
  | .mix rs => by have := dep_nodesL rs; simp only [Rw.dep, Rw.nodes]; omega
theorem dep_nodesL : ∀ rs : List Rw, Rw.depL rs ≤ Rw.nodesL rs
  | [] => Nat.le_refl _
  | r :: rs => by have := dep_nodes r; have := dep_nodesL rs; simp only [Rw.depL, Rw.nodesL]; omega
end
end DL

set_option Elab.async false
set_option linter.all false
set_option maxRecDepth 100000
set_option maxHeartbeats 400000
/-! more rules: [*a, b], x += n, three names at once, max -/
namespace DL
open PySem PySem.Spec PyProof.Rows L2
variable [Tb]
section
variable {X : Cx} {e a b : Expr} {es : List Expr} {m m1 m2 : Md} {pos p : Pos} {x y z : Str}
theorem dms_app {K : PySem.W.Frag} {S O : List Addr} {H : Hp} {m : Md} : ∀ {vs ws : List V} {ds es : List PyData}, DMs m K S O H vs ds → DMs m K S O H ws es → DMs m K S O H (vs ++ ws) (ds ++ es)
  | _, _, _, _, .nil, q => q
  | _, _, _, _, .cons h t, q => .cons h (dms_app t q)
theorem dms_of {K : PySem.W.Frag} {S O : List Addr} {H : Hp} : ∀ {vs : List V} {ds : List PyData}, DxAll K (hid O H) vs ds → DMs .cl K S O H vs ds
  | _, _, .nil => .nil
  | _, _, .cons h t => .cons h (dms_of t)
/-- *e, .. in a display -/
theorem evl_star {w : WD} {ws : WL} (h : Ev .sh X e w) (t : EvL .cl X es ws) (hs : starEach (.Starred e p :: es) X.env = (true, eval e X.env) :: starEach es X.env := by rfl) :
    EvL .cl X (.Starred e p :: es) (fun sd Q => w sd fun d => dItems d fun zs => ws sd fun ds => Q (zs ++ ds)) where
  pa := PA.weak (StX.pa_star h.pe t.pa hs) fun σ H Q ⟨c, sd, os, hk, r, q⟩ =>
    ⟨c, sd, os, hk, r, h.mo _ _ _ (fun d k v H1 x1 d1 => by
      unfold dItems at k
      split at k
      · obtain ⟨a, xs, rfl, h1, h2⟩ := d1
        refine ⟨a, xs, rfl, .inr (.inl (.inl (hid_some h1).2)), c, sd, os, hk, r.grow x1, t.mo _ _ _ (fun ds k2 vs H2 x2 d2 => ?_) k⟩
        exact k2 _ H2 (x1.trans x2) (dms_app (DMs.grow r.sO x2 (dms_of h2)) d2)
      · obtain ⟨a, xs, rfl, h1, h2⟩ := shTup d1
        refine ⟨a, xs, rfl, .inl (SqT.same hid_sub h1), c, sd, os, hk, r.grow x1, t.mo _ _ _ (fun ds k2 vs H2 x2 d2 => ?_) k⟩
        exact k2 _ H2 (x1.trans x2) (dms_app (DMs.grow r.sO x2 (dms_of h2)) d2)
      · exact k.elim) q⟩
  mo := fun sd Q Q' k q => h.mo _ _ _ (fun d z => dItems_mo (fun zs y => t.mo _ _ _ (fun ds y => k _ y) y) z) q
/-- x += n, whole numbers -/
def wAugI (i : Nat) (we : WD) : WS := fun E sd => match getS sd i with
  | .va (.int a) => we sd fun d => match d with
    | .int b => E.nx (sd.set i (.va (.int (a + b))))
    | _ => False
  | _ => False
theorem evs_augI {we : WD} {pos' : Pos} (i : Nat) (h : Ev .sh X e we) (hN : X.N.Nodup) (hi : X.N[i]? = some x := by rfl) (hx : Loc X.env.scope x := by first | exact Or.inl rfl | exact Or.inr rfl)
    (hf : X.fn x = true ∨ X.env.scope.names.lookup x = some .local := by first | exact .inl rfl | exact .inr rfl) :
    EvS X (.AugAssign (.Name x pos') .Add e pos) (wAugI i we) where
  ps := PS.weak (ps_aug hN hi hx h.pe ip_add hf) fun D σ H ⟨c, sd, os, E, hk, r, er, q⟩ => by
    unfold wAugI at q
    cases g : getS sd i with
    | va d =>
      rw [g] at q
      cases d with
      | int a =>
        obtain ⟨v, oa, h1, h2, h3, y, rfl, h4⟩ := r.at_ g (by intro z; cases z)
        cases h4
        refine ⟨_, h1, c, sd, os, hk, r, h.mo _ _ _ (fun d k v H1 x1 dm => ?_) q⟩
        cases d with
        | int b =>
          refine ⟨a, b, rfl, shInt dm, ?_⟩
          obtain ⟨os', r'⟩ := R.set (i := i) (z := .va (.int (a + b))) r x1 (Dx.int _)
          exact er.nx _ _ _ _ r' k
        | _ => exact k.elim
      | _ => exact q.elim
    | _ => rw [g] at q; exact q.elim
  mo := fun E E' sd h1 _ _ _ q => by
    unfold wAugI at q ⊢
    split at q
    · exact h.mo _ _ _ (fun d z => by
        cases d with
        | int b => exact h1 _ z
        | _ => exact z.elim) q
    · exact q.elim
/-- a, b, c = e, f, g -/
def wPar3 (i j l : Nat) (wl : WL) : WS := fun E sd => wl sd fun ds => match ds with
  | [d1, d2, d3] => E.nx (((sd.set i (.va d1)).set j (.va d2)).set l (.va d3))
  | _ => False
theorem evs_par3 {e1 e2 e3 : Expr} {wl : WL} {px py pz pt : Pos} {kt k2 pt2} (i j l : Nat) (h : EvL .cl X [e1, e2, e3] wl) (hc : X.calm = true) (hN : X.N.Nodup) (hi : X.N[i]? = some x := by rfl) (hj : X.N[j]? = some y := by rfl) (hl : X.N[l]? = some z := by rfl)
    (hij : i ≠ j := by decide) (hil : i ≠ l := by decide) (hjl : j ≠ l := by decide)
    (hx : X.env.scope.names.lookup x = some .local := by rfl) (hy : X.env.scope.names.lookup y = some .local := by rfl) (hz : X.env.scope.names.lookup z = some .local := by rfl)
    (hw : swappedStores [.Tuple [.Name x px, .Name y py, .Name z pz] kt pt] (.Tuple [e1, e2, e3] k2 pt2) X.env = pure (some [x, y, z]) := by rfl)
    (hs : swapsWithSole [.Tuple [.Name x px, .Name y py, .Name z pz] kt pt] (.Tuple [e1, e2, e3] k2 pt2) pos.line X.env = pure false := by rfl) :
    EvS X (.Assign [.Tuple [.Name x px, .Name y py, .Name z pz] kt pt] (.Tuple [e1, e2, e3] k2 pt2) pos) (wPar3 i j l wl) where
  ps := PS.weak (ps_par3 hc hN hi hj hl hij hil hjl hx hy hz h.pa hw hs) fun D σ H ⟨c, sd, os, E, hk, r, er, q⟩ => by
    refine ⟨c, sd, os, hk, r, h.mo _ _ _ (fun ds k vs H1 x1 dm => ?_) q⟩
    match ds, vs, dm, k with
    | [d1, d2, d3], _, .cons (v := v1) g1 (.cons (v := v2) g2 (.cons (v := v3) g3 .nil)), k =>
      refine ⟨v1, v2, v3, rfl, ?_⟩
      have rr := (r.grow x1).more [(v1, d1), (v2, d2), (v3, d3)] (fun q m => by
        rw [hk]
        rcases List.mem_cons.mp m with rfl | m
        · exact g1
        · rcases List.mem_cons.mp m with rfl | m
          · exact g2
          · rw [List.mem_singleton.mp m]; exact g3)
      obtain ⟨os1, r1⟩ := R.set (i := i) (z := .va d1) rr Ext.refl (rr.tmp (v1, d1) (List.mem_append_left _ (by simp)))
      obtain ⟨os2, r2⟩ := R.set (i := j) (z := .va d2) r1 Ext.refl (r1.tmp (v2, d2) (List.mem_append_left _ (by simp)))
      obtain ⟨os3, r3⟩ := R.set (i := l) (z := .va d3) r2 Ext.refl (r2.tmp (v3, d3) (List.mem_append_left _ (by simp)))
      exact er.nx _ _ _ _ r3.less k
    | [], _, _, k => exact k.elim
    | [_], _, _, k => exact k.elim
    | [_, _], _, _, k => exact k.elim
    | _ :: _ :: _ :: _ :: _, _, _, k => exact k.elim
  mo := fun E E' sd h1 _ _ _ q => h.mo _ _ _ (fun ds z => by
    match ds, z with
    | [d1, d2, d3], z => exact h1 _ z
    | [], z => exact z.elim
    | [_], z => exact z.elim
    | [_, _], z => exact z.elim
    | _ :: _ :: _ :: _ :: _, z => exact z.elim) q
/-! ### max of a list of whole numbers -/
def dMax (d : PyData) (Q : RV → Prop) : Prop := match d with
  | .list xs => ∃ ns : List Int, xs = ns.map PyData.int ∧ 0 < ns.length ∧ ∀ m, m ∈ ns → (∀ y, y ∈ ns → y ≤ m) → Q (.va (.int m))
  | _ => False
theorem cd_max (hc : X.calm = true) : CallD X (.builtin "max") .sh (rd1 dMax) where
  ex := ⟨_, cr_max hc, rd1_br fun S O H x d Q hs hO hd q => by
    unfold dMax at q
    split at q
    · obtain ⟨ns, rfl, h0, q⟩ := q
      obtain ⟨a, us, rfl, h1, h2⟩ := hd
      have e := all_ints h2
      subst e
      exact ⟨a, ns, rfl, .inl (.inl (hid_some h1).2), h0, fun m hm hy => q m hm hy _ H (Same.refl H) (.int _)⟩
    · exact q.elim⟩
  mo := rd1_mo fun d Q Q' k q => by
    unfold dMax at q ⊢
    split at q
    · obtain ⟨ns, e, h0, q⟩ := q
      exact ⟨ns, e, h0, fun m a b => k _ (q m a b)⟩
    · exact q.elim
end
theorem qisStrD_str (s : Str) : isStrD (.str s) = true := rfl
theorem qisStrD_tup (s : List PyData) : isStrD (.tuple s) = false := rfl
theorem qisStrD_lst (s : List PyData) : isStrD (.list s) = false := rfl
theorem qisStrD_int (s : Int) : isStrD (.int s) = false := rfl
theorem qisStrD_bl (s : Bool) : isStrD (.bool s) = false := rfl
theorem qisStrD_non  : isStrD .none = false := rfl
theorem qisStrD_dct (s : List (PyData × PyData)) : isStrD (.dict s) = false := rfl
theorem qisTupD_str (s : Str) : isTupD (.str s) = false := rfl
theorem qisTupD_tup (s : List PyData) : isTupD (.tuple s) = true := rfl
theorem qisTupD_lst (s : List PyData) : isTupD (.list s) = false := rfl
theorem qisTupD_int (s : Int) : isTupD (.int s) = false := rfl
theorem qisTupD_bl (s : Bool) : isTupD (.bool s) = false := rfl
theorem qisTupD_non  : isTupD .none = false := rfl
theorem qisTupD_dct (s : List (PyData × PyData)) : isTupD (.dict s) = false := rfl
theorem qisLstD_str (s : Str) : isLstD (.str s) = false := rfl
theorem qisLstD_tup (s : List PyData) : isLstD (.tuple s) = false := rfl
theorem qisLstD_lst (s : List PyData) : isLstD (.list s) = true := rfl
theorem qisLstD_int (s : Int) : isLstD (.int s) = false := rfl
theorem qisLstD_bl (s : Bool) : isLstD (.bool s) = false := rfl
theorem qisLstD_non  : isLstD .none = false := rfl
theorem qisLstD_dct (s : List (PyData × PyData)) : isLstD (.dict s) = false := rfl
theorem qisDctD_str (s : Str) : isDctD (.str s) = false := rfl
theorem qisDctD_tup (s : List PyData) : isDctD (.tuple s) = false := rfl
theorem qisDctD_lst (s : List PyData) : isDctD (.list s) = false := rfl
theorem qisDctD_int (s : Int) : isDctD (.int s) = false := rfl
theorem qisDctD_bl (s : Bool) : isDctD (.bool s) = false := rfl
theorem qisDctD_non  : isDctD .none = false := rfl
theorem qisDctD_dct (s : List (PyData × PyData)) : isDctD (.dict s) = true := rfl
theorem qisBooD_str (s : Str) : isBooD (.str s) = false := rfl
theorem qisBooD_tup (s : List PyData) : isBooD (.tuple s) = false := rfl
theorem qisBooD_lst (s : List PyData) : isBooD (.list s) = false := rfl
theorem qisBooD_int (s : Int) : isBooD (.int s) = false := rfl
theorem qisBooD_bl (s : Bool) : isBooD (.bool s) = true := rfl
theorem qisBooD_non  : isBooD .none = false := rfl
theorem qisBooD_dct (s : List (PyData × PyData)) : isBooD (.dict s) = false := rfl
theorem qisIntD_str (s : Str) : isIntD (.str s) = false := rfl
theorem qisIntD_tup (s : List PyData) : isIntD (.tuple s) = false := rfl
theorem qisIntD_lst (s : List PyData) : isIntD (.list s) = false := rfl
theorem qisIntD_int (s : Int) : isIntD (.int s) = true := rfl
theorem qisIntD_bl (s : Bool) : isIntD (.bool s) = true := rfl
theorem qisIntD_non  : isIntD .none = false := rfl
theorem qisIntD_dct (s : List (PyData × PyData)) : isIntD (.dict s) = false := rfl
theorem qAddI (i j : Int) (Q : RV → Prop) : rdAdd (.int i) (.int j) Q = Q (.va (.int (i + j))) := rfl
theorem qAddS (i j : Str) (Q : RV → Prop) : rdAdd (.str i) (.str j) Q = (i.length + j.length ≤ sizeLine ∧ Q (.va (.str (i ++ j)))) := rfl
theorem qAddT (i j : List PyData) (Q : RV → Prop) : rdAdd (.tuple i) (.tuple j) Q = (i.length + j.length ≤ sizeLine ∧ Q (.va (.tuple (i ++ j)))) := rfl
theorem qAddL (i j : List PyData) (Q : RV → Prop) : rdAdd (.list i) (.list j) Q = (i.length + j.length ≤ sizeLine ∧ Q (.fr (i ++ j))) := rfl
theorem qInt (C : Int → Int → Prop) (g : Int → Int → PyData) (i j : Int) (Q : RV → Prop) : rdInt C g (.int i) (.int j) Q = (C i j ∧ Q (.va (g i j))) := rfl
theorem qSlT (xs : List PyData) (lo hi : Option Int) (Q : RV → Prop) : rdSl (.tuple xs) lo hi Q = Q (.va (.tuple (cutD xs lo hi))) := rfl
theorem qSlL (xs : List PyData) (lo hi : Option Int) (Q : RV → Prop) : rdSl (.list xs) lo hi Q = Q (.fr (cutD xs lo hi)) := rfl
theorem qSlS (z : Str) (lo hi : Option Int) (Q : RV → Prop) : rdSl (.str z) lo hi Q = (z.length ≤ sizeLine ∧ Q (.va (.str (cutS z lo hi)))) := rfl
theorem qEqI (i j : Int) (Q : Bool → Prop) : dEq (.int i) (.int j) Q = Q (decide (i = j)) := rfl
theorem qEqS (i j : Str) (Q : Bool → Prop) : dEq (.str i) (.str j) Q = Q (decide (i = j)) := rfl
theorem qEqB (i j : Bool) (Q : Bool → Prop) : dEq (.bool i) (.bool j) Q = Q (decide (i = j)) := rfl
theorem qEqN (Q : Bool → Prop) : dEq .none .none Q = Q true := rfl
theorem qEqT (i j : List PyData) (Q : Bool → Prop) : dEq (.tuple i) (.tuple j) Q = ((SeqAt.shaped (.tuple i) = true ∧ SeqAt.shaped (.tuple j) = true) ∧ Q (PyData.eqv (.tuple i) (.tuple j))) := rfl
theorem qEqL (i j : List PyData) (Q : Bool → Prop) : dEq (.list i) (.list j) Q = ((SeqAt.shaped (.list i) = true ∧ SeqAt.shaped (.list j) = true) ∧ Q (PyData.eqv (.list i) (.list j))) := rfl
theorem qIxT0 (d : PyData) (ds : List PyData) (Q : RV → Prop) : ixC 0 (.tuple (d :: ds)) Q = Q (.va d) := rfl
theorem qIxT1 (d e : PyData) (ds : List PyData) (Q : RV → Prop) : ixC 1 (.tuple (d :: e :: ds)) Q = Q (.va e) := rfl
theorem qIxT2 (d e f : PyData) (ds : List PyData) (Q : RV → Prop) : ixC 2 (.tuple (d :: e :: f :: ds)) Q = Q (.va f) := rfl
theorem qIxL0 (d : PyData) (ds : List PyData) (Q : RV → Prop) : ixC 0 (.list (d :: ds)) Q = Q (.va d) := rfl
theorem qIxL1 (d e : PyData) (ds : List PyData) (Q : RV → Prop) : ixC 1 (.list (d :: e :: ds)) Q = Q (.va e) := rfl
theorem qLenT (xs : List PyData) (Q : RV → Prop) : dLen (.tuple xs) Q = Q (.va (.int xs.length)) := rfl
theorem qLenL (xs : List PyData) (Q : RV → Prop) : dLen (.list xs) Q = Q (.va (.int xs.length)) := rfl
theorem qLenS (z : Str) (Q : RV → Prop) : dLen (.str z) Q = (z.length ≤ sizeLine ∧ Q (.va (.int z.length))) := rfl
theorem qTupT (xs : List PyData) (Q : RV → Prop) : dTuple (.tuple xs) Q = Q (.va (.tuple xs)) := rfl
theorem qTupL (xs : List PyData) (Q : RV → Prop) : dTuple (.list xs) Q = Q (.va (.tuple xs)) := rfl
theorem qLstT (xs : List PyData) (Q : RV → Prop) : dList (.tuple xs) Q = Q (.fr xs) := rfl
theorem qLstL (xs : List PyData) (Q : RV → Prop) : dList (.list xs) Q = Q (.fr xs) := rfl
theorem qIt (xs : List PyData) (Q : List PyData → Prop) : dItems (.tuple xs) Q = Q xs := rfl
theorem qItL (xs : List PyData) (Q : List PyData → Prop) : dItems (.list xs) Q = Q xs := rfl
theorem qIntI (i : Int) (Q : RV → Prop) : dInt (.int i) Q = Q (.va (.int i)) := rfl
theorem qBl (b : Bool) : truD (.bool b) = some b := rfl
theorem qTrT (xs : List PyData) : truD (.tuple xs) = some (!xs.isEmpty) := rfl
theorem qTrL (xs : List PyData) : truD (.list xs) = some (!xs.isEmpty) := rfl
theorem qTrI (i : Int) : truD (.int i) = some (i != 0) := rfl
theorem qTrN : truD .none = some false := rfl
theorem qNoN : isNon .none = true := rfl
theorem qNoT (xs : List PyData) : isNon (.tuple xs) = false := rfl
theorem qNoL (xs : List PyData) : isNon (.list xs) = false := rfl
theorem qNoI (i : Int) : isNon (.int i) = false := rfl
theorem qNoS (i : Str) : isNon (.str i) = false := rfl
theorem d01 : decide ((0 : Int) < 1) = true := rfl
theorem d0m : decide ((0 : Int) < -1) = false := rfl
theorem dm0 : decide ((-1 : Int) < 0) = true := rfl
theorem d10 : decide ((1 : Int) < 0) = false := rfl
/-- if, by a name -/
def wIfS (t : WB) (w u : WS) : WS := fun E sd => t sd fun b => if b = true then w E sd else u E sd
theorem evs_ifS {X : Cx} {pos : Pos} {c : Expr} {x y : List Stmt} {t : WB} {w u : WS} (hc : EvT X c t) (ha : EvB X x w) (hb : EvB X y u) : EvS X (.If c x y pos) (wIfS t w u) := evs_if hc ha hb
/-- behind an if the same is to hold, whichever way was gone -/
theorem if_set {t : WB} {w u : WS} {E : ED} {sd : SD} (P : SD → Prop) (h1 : ∀ E' : ED, (∀ sd, P sd → E'.nx sd) → wIfS t w u E' sd) (h2 : ∀ sd, P sd → E.nx sd) : wIfS t w u E sd := h1 E h2
end DL

set_option Elab.async false
set_option linter.all false
set_option maxRecDepth 100000
set_option maxHeartbeats 400000
/-! addresses of rows -/
namespace DL
open PySem PySem.Spec PyProof.Rows L2
variable [Tb]
/-- a tuple of whole numbers -/
def intsD (p : List Int) : PyData := .tuple (p.map PyData.int)
theorem intsD_eqv : ∀ p q : List Int, PyData.eqvAll (p.map PyData.int) (q.map PyData.int) = decide (p = q)
  | [], [] => by simp [PyData.eqvAll]
  | [], _ :: _ => by simp [PyData.eqvAll]
  | _ :: _, [] => by simp [PyData.eqvAll]
  | a :: p, b :: q => by
    simp only [List.map_cons, PyData.eqvAll, PyData.eqv, intsD_eqv p q]
    by_cases h : a = b <;> by_cases h2 : p = q <;> simp [h, h2]
theorem ints_eqv (p q : List Int) : PyData.eqv (intsD p) (intsD q) = decide (p = q) := by
  unfold intsD; simp only [PyData.eqv]; exact intsD_eqv p q
theorem ints_lay : ∀ p : List Int, PyData.canLayAll0 (p.map PyData.int) = true ∧ PyData.depthAll (p.map PyData.int) = 0
  | [] => by simp [PyData.canLayAll0, PyData.depthAll]
  | a :: p => by
    have h := ints_lay p
    simp [PyData.canLayAll0, PyData.depthAll, PyData.canLay0, PyData.depth, h.1, h.2]
theorem ints_sh (p : List Int) : SeqAt.shaped (intsD p) = true := by
  have h := ints_lay p
  unfold SeqAt.shaped intsD
  simp only [PyData.canLay0, PyData.depth, h.1, h.2, Bool.true_and]
  decide
/-- one step into a row -/
inductive Step : Rw → List Int → Rw → Prop
  | join {rs : List Rw} {r : Rw} (k : Nat) (h : rs[k]? = some r) : Step (.join rs) [(k : Int)] r
  | right {r : Rw} (i : Nat) : Step (.right r) [(i : Int)] r
  | left {r : Rw} (i : Nat) : Step (.left r) [(i : Int)] r
  | mix {rs : List Rw} {r : Rw} (k n : Nat) (h : rs[n % rs.length]? = some r) : Step (.mix rs) [(k : Int), ((n + 1 : Nat) : Int)] r
def Rw.isL : Rw → Bool | .let _ => true | _ => false
def Rw.isM : Rw → Bool | .mix _ => true | _ => false
theorem Step.len {r s : Rw} {key : List Int} (h : Step r key s) : key.length = (if r.isM then 2 else 1) := by cases h <;> rfl
theorem Step.dep {r s : Rw} {key : List Int} (h : Step r key s) : s.dep < r.dep := by
  cases h with
  | join k h => have := Rw.dep_mem (List.mem_of_getElem? h); simp only [Rw.dep]; omega
  | right i => simp only [Rw.dep]; omega
  | left i => simp only [Rw.dep]; omega
  | mix k n h => have := Rw.dep_mem (List.mem_of_getElem? h); simp only [Rw.dep]; omega
theorem Step.nodes {r s : Rw} {key : List Int} (h : Step r key s) : s.nodes < r.nodes := by
  cases h with
  | join k h => have := Rw.nodes_mem (List.mem_of_getElem? h); simp only [Rw.nodes]; omega
  | right i => simp only [Rw.nodes]; omega
  | left i => simp only [Rw.nodes]; omega
  | mix k n h => have := Rw.nodes_mem (List.mem_of_getElem? h); simp only [Rw.nodes]; omega
theorem Step.wf {r s : Rw} {key : List Int} (h : Step r key s) (w : r.wf = true) : s.wf = true := by
  cases h with
  | join k h => exact r_wf_mem w (List.mem_of_getElem? h)
  | right i => simpa only [Rw.wf] using w
  | left i => simpa only [Rw.wf] using w
  | mix k n h => exact r_wf_mix w (List.mem_of_getElem? h)
where
  r_wf_mem {rs : List Rw} {r : Rw} (w : (Rw.join rs).wf = true) (m : r ∈ rs) : r.wf = true := by
    simp only [Rw.wf, Bool.and_eq_true] at w; exact wf_mem w.2 m
  r_wf_mix {rs : List Rw} {r : Rw} (w : (Rw.mix rs).wf = true) (m : r ∈ rs) : r.wf = true := by
    simp only [Rw.wf, Bool.and_eq_true] at w; exact wf_mem w.2 m
/-- the way to an address: the steps, with what is gone ahead of each, and the letter there -/
inductive Way : Rw → List Int → Nat → List (Rw × List Int × Nat) → Fin 26 → Prop
  | let (c : Fin 26) (n : Nat) : Way (.let c) [] n [] c
  | step {r s : Rw} {key p : List Int} {n : Nat} {ss : List (Rw × List Int × Nat)} {c : Fin 26} (h : Step r key s) (t : Way s p (n + key.length) ss c) : Way r (key ++ p) n ((r, key, n) :: ss) c
/-- an address -/
inductive Ad : Rw → List Int → Prop
  | let (c : Fin 26) : Ad (.let c) []
  | step {r s : Rw} {key p : List Int} (h : Step r key s) (t : Ad s p) : Ad r (key ++ p)
theorem Ad.way {r : Rw} {p : List Int} (h : Ad r p) : ∀ n, ∃ ss c, Way r p n ss c := by
  induction h with
  | «let» c => exact fun n => ⟨[], c, .let c n⟩
  | step h t ih =>
    intro n
    obtain ⟨ss, c, w⟩ := ih (n + _)
    exact ⟨_, c, .step h w⟩
theorem Way.ad {r : Rw} {p : List Int} {n : Nat} {ss : List (Rw × List Int × Nat)} {c : Fin 26} (h : Way r p n ss c) : Ad r p := by
  induction h with
  | «let» c n => exact .let c
  | step h t ih => exact .step h ih
def stepD (x : Rw × List Int × Nat) : PyData := .tuple [x.1.toD, intsD x.2.1, .int x.2.2]
/-- slices of tuples of numbers -/
theorem cut_mid {α : Type} (pre key post : List α) : cutD (pre ++ (key ++ post)) (some (pre.length : Int)) (some ((pre.length : Int) + (key.length : Int))) = key := by
  unfold cutD
  have e1 : HT.sIx (pre ++ (key ++ post)).length 0 (some (pre.length : Int)) = pre.length := by
    show (if (pre.length : Int) < 0 then ((pre.length : Int) + ((pre ++ (key ++ post)).length : Int)).toNat else min (pre.length : Int).toNat (pre ++ (key ++ post)).length) = _
    rw [if_neg (by omega), Int.toNat_natCast]
    simp only [List.length_append]; omega
  have e2 : HT.sIx (pre ++ (key ++ post)).length (pre ++ (key ++ post)).length (some ((pre.length : Int) + (key.length : Int))) = pre.length + key.length := by
    show (if ((pre.length : Int) + (key.length : Int)) < 0 then (((pre.length : Int) + (key.length : Int)) + ((pre ++ (key ++ post)).length : Int)).toNat else min ((pre.length : Int) + (key.length : Int)).toNat (pre ++ (key ++ post)).length) = _
    rw [if_neg (by omega)]
    simp only [List.length_append]; omega
  rw [e1, e2, List.drop_left, Nat.add_sub_cancel_left, List.take_left]
theorem cutD_map {α β : Type} (f : α → β) (xs : List α) (lo hi : Option Int) : cutD (xs.map f) lo hi = (cutD xs lo hi).map f := by
  unfold cutD
  rw [List.length_map, ← List.map_drop, ← List.map_take]
theorem cut_to {α : Type} (xs : List α) (k : Nat) : cutD xs none (some (k : Int)) = xs.take k := by
  unfold cutD
  have e1 : HT.sIx xs.length xs.length (some (k : Int)) = min k xs.length := by
    show (if (k : Int) < 0 then ((k : Int) + (xs.length : Int)).toNat else min (k : Int).toNat xs.length) = _
    rw [if_neg (by omega), Int.toNat_natCast]
  have e2 : HT.sIx xs.length 0 none = 0 := rfl
  rw [e1, e2, List.drop_zero, Nat.sub_zero]
  rcases Nat.le_total k xs.length with h | h
  · rw [Nat.min_eq_left h]
  · rw [Nat.min_eq_right h, List.take_of_length_le (Nat.le_refl _), List.take_of_length_le h]
theorem cut_from {α : Type} (xs : List α) (k : Nat) : cutD xs (some (k : Int)) none = xs.drop k := by
  unfold cutD
  have e1 : HT.sIx xs.length 0 (some (k : Int)) = min k xs.length := by
    show (if (k : Int) < 0 then ((k : Int) + (xs.length : Int)).toNat else min (k : Int).toNat xs.length) = _
    rw [if_neg (by omega), Int.toNat_natCast]
  have e2 : HT.sIx xs.length xs.length none = xs.length := rfl
  rw [e1, e2]
  rcases Nat.le_total k xs.length with h | h
  · rw [Nat.min_eq_left h]
    exact List.take_of_length_le (by rw [List.length_drop]; omega)
  · rw [Nat.min_eq_right h, List.drop_of_length_le (Nat.le_refl _), List.drop_of_length_le h]
    simp
/-- items -/
theorem rdIx_lst {xs : List PyData} {n : Nat} {v : PyData} {Q : RV → Prop} (h : xs[n]? = some v) (q : Q (.va v)) : rdIx (.list xs) (.int (n : Int)) Q := by
  simp only [rdIx, L2.atI_nat h]; exact q
theorem rdIx_tup {xs : List PyData} {n : Nat} {v : PyData} {Q : RV → Prop} (h : xs[n]? = some v) (q : Q (.va v)) : rdIx (.tuple xs) (.int (n : Int)) Q := by
  simp only [rdIx, L2.atI_nat h]; exact q
mutual
/-- the first place, or the last one -/
def Rw.ep (s : Bool) : Rw → Option (List Int)
  | .let _ => some []
  | .join rs => if s then (Rw.epL s rs).map ((((rs.length - 1 : Nat) : Int)) :: ·) else (Rw.epH s rs).map ((0 : Int) :: ·)
  | .right r => if s then none else (Rw.ep s r).map ((0 : Int) :: ·)
  | .left r => if s then (Rw.ep s r).map ((0 : Int) :: ·) else none
  | .mix _ => none
def Rw.epH (s : Bool) : List Rw → Option (List Int)
  | [] => none
  | r :: _ => Rw.ep s r
def Rw.epL (s : Bool) : List Rw → Option (List Int)
  | [] => none
  | r :: rs => match rs with
    | [] => Rw.ep s r
    | _ :: _ => Rw.epL s rs
end
theorem Rw.epH_eq (s : Bool) (rs : List Rw) {r : Rw} (h : rs[0]? = some r) : Rw.epH s rs = Rw.ep s r := by
  cases rs with
  | nil => cases h
  | cons a t => cases h; simp only [Rw.epH]
theorem Rw.epL_eq (s : Bool) : ∀ (rs : List Rw) {r : Rw}, rs[rs.length - 1]? = some r → Rw.epL s rs = Rw.ep s r
  | [], _, h => by simp at h
  | [a], r, h => by simp at h; subst h; simp only [Rw.epL]
  | a :: b :: t, r, h => by
    have e : (b :: t)[(b :: t).length - 1]? = some r := by
      simp only [List.length_cons, Nat.add_sub_cancel] at h ⊢
      exact h
    simp only [Rw.epL]
    exact Rw.epL_eq s (b :: t) e
theorem Rw.notStr {r : Rw} (h : r.isL = false) : isStrD r.toD = false := by cases r <;> first | rfl | cases h
theorem Rw.isStr_let (c : Fin 26) : isStrD (Rw.let c).toD = true := rfl
end DL

set_option Elab.async false
set_option linter.all false
set_option maxRecDepth 100000
set_option maxHeartbeats 400000
/-! rows turned about, ends, and what is ahead -/
namespace DL
open PySem PySem.Spec PyProof.Rows L2
variable [Tb]
mutual
def Rw.about : Rw → Rw
  | .let c => .let c
  | .join rs => .join (Rw.aboutL rs).reverse
  | .right r => .left r.about
  | .left r => .right r.about
  | .mix rs => .mix (Rw.aboutL rs)
def Rw.aboutL : List Rw → List Rw
  | [] => []
  | r :: rs => r.about :: Rw.aboutL rs
end
theorem Rw.aboutL_eq : ∀ rs : List Rw, Rw.aboutL rs = rs.map Rw.about
  | [] => rfl
  | r :: rs => by simp only [Rw.aboutL, List.map_cons, Rw.aboutL_eq rs]
theorem Rw.depL_app (rs ss : List Rw) : Rw.depL (rs ++ ss) = max (Rw.depL rs) (Rw.depL ss) := by
  induction rs with
  | nil => simp [Rw.depL]
  | cons r rs ih => simp only [List.cons_append, Rw.depL, ih]; omega
theorem Rw.depL_rev (rs : List Rw) : Rw.depL rs.reverse = Rw.depL rs := by
  induction rs with
  | nil => rfl
  | cons r rs ih => simp only [List.reverse_cons, Rw.depL_app, ih, Rw.depL]; omega
theorem Rw.wfL_rev (rs : List Rw) : Rw.wfL rs.reverse = Rw.wfL rs := by
  rw [Bool.eq_iff_iff, Rw.wfL_iff, Rw.wfL_iff]
  simp
mutual
theorem Rw.about_facts : ∀ r : Rw, r.about.dep = r.dep ∧ r.about.nodes = r.nodes ∧ r.about.wf = r.wf
  | .let c => ⟨rfl, rfl, rfl⟩
  | .join rs => by
    have h := Rw.aboutL_facts rs
    simp only [Rw.about, Rw.dep, Rw.nodes, Rw.wf, Rw.depL_rev, Rw.nodesL_rev, Rw.wfL_rev, List.length_reverse, h.1, h.2.1, h.2.2.1, h.2.2.2]
    exact ⟨trivial, trivial, trivial⟩
  | .right r => by have h := Rw.about_facts r; simp only [Rw.about, Rw.dep, Rw.nodes, Rw.wf, h.1, h.2.1, h.2.2]; exact ⟨trivial, trivial, trivial⟩
  | .left r => by have h := Rw.about_facts r; simp only [Rw.about, Rw.dep, Rw.nodes, Rw.wf, h.1, h.2.1, h.2.2]; exact ⟨trivial, trivial, trivial⟩
  | .mix rs => by
    have h := Rw.aboutL_facts rs
    simp only [Rw.about, Rw.dep, Rw.nodes, Rw.wf, h.1, h.2.1, h.2.2.1, h.2.2.2]
    exact ⟨trivial, trivial, trivial⟩
theorem Rw.aboutL_facts : ∀ rs : List Rw, Rw.depL (Rw.aboutL rs) = Rw.depL rs ∧ Rw.nodesL (Rw.aboutL rs) = Rw.nodesL rs ∧ Rw.wfL (Rw.aboutL rs) = Rw.wfL rs ∧ (Rw.aboutL rs).length = rs.length
  | [] => ⟨rfl, rfl, rfl, rfl⟩
  | r :: rs => by
    have h := Rw.about_facts r
    have t := Rw.aboutL_facts rs
    simp only [Rw.aboutL, Rw.depL, Rw.nodesL, Rw.wfL, List.length_cons, h.1, h.2.1, h.2.2, t.1, t.2.1, t.2.2.1, t.2.2.2]
    exact ⟨trivial, trivial, trivial, trivial⟩
end
mutual
/-- the letter at an end -/
def Rw.el (s : Bool) : Rw → Option (_root_.Fin 26)
  | .let c => some c
  | .join rs => if s then Rw.elL s rs else Rw.elH s rs
  | .right r => if s then none else Rw.el s r
  | .left r => if s then Rw.el s r else none
  | .mix _ => none
def Rw.elH (s : Bool) : List Rw → Option (_root_.Fin 26)
  | [] => none
  | r :: _ => Rw.el s r
def Rw.elL (s : Bool) : List Rw → Option (_root_.Fin 26)
  | [] => none
  | r :: rs => match rs with
    | [] => Rw.el s r
    | _ :: _ => Rw.elL s rs
end
theorem Rw.elH_eq (s : Bool) (rs : List Rw) {r : Rw} (h : rs[0]? = some r) : Rw.elH s rs = Rw.el s r := by
  cases rs with
  | nil => cases h
  | cons a t => cases h; simp only [Rw.elH]
theorem Rw.elL_eq (s : Bool) : ∀ (rs : List Rw) {r : Rw}, rs[rs.length - 1]? = some r → Rw.elL s rs = Rw.el s r
  | [], _, h => by simp at h
  | [a], r, h => by simp at h; subst h; simp only [Rw.elL]
  | a :: b :: t, r, h => by
    have e : (b :: t)[(b :: t).length - 1]? = some r := by
      simp only [List.length_cons, Nat.add_sub_cancel] at h ⊢
      exact h
    simp only [Rw.elL]
    exact Rw.elL_eq s (b :: t) e
theorem ends_of (rs : List Rw) : rs = [] ∨ ∃ f l, rs[0]? = some f ∧ rs[rs.length - 1]? = some l ∧ f ∈ rs ∧ l ∈ rs := by
  cases rs with
  | nil => exact .inl rfl
  | cons a t =>
    have h2 : (a :: t).length - 1 < (a :: t).length := by simp
    exact .inr ⟨a, (a :: t)[(a :: t).length - 1], rfl, List.getElem?_eq_getElem h2, List.mem_cons_self, List.getElem_mem h2⟩
theorem rev_last {α : Type} (xs : List α) {f : α} (h : xs[0]? = some f) : xs.reverse[xs.reverse.length - 1]? = some f := by
  cases xs with
  | nil => cases h
  | cons a t => cases h; simp
theorem rev_first {α : Type} (xs : List α) {l : α} (h : xs[xs.length - 1]? = some l) : xs.reverse[0]? = some l := by
  rw [List.getElem?_reverse (by
    cases xs with
    | nil => simp at h
    | cons a t => simp)]
  simpa using h
theorem rw_ind {P : Rw → Prop} (h : ∀ r, (∀ s, s.nodes < r.nodes → P s) → P r) (r : Rw) : P r := by
  have key : ∀ n (r : Rw), r.nodes ≤ n → P r := by
    intro n
    induction n with
    | zero => intro r hr; have := r.nodes_pos; omega
    | succ n ih => exact fun r hr => h r fun s hs => ih s (by omega)
  exact key _ r (Nat.le_refl _)
theorem about_ends (r : Rw) : ∀ s : Bool, (r.about.ep (!s)).isSome = (r.ep s).isSome ∧ r.about.el (!s) = r.el s := by
  refine rw_ind (P := fun r => ∀ s : Bool, (r.about.ep (!s)).isSome = (r.ep s).isSome ∧ r.about.el (!s) = r.el s) (fun r ih s => ?_) r
  cases r with
  | «let» c => simp only [Rw.about, Rw.ep, Rw.el]; exact ⟨trivial, trivial⟩
  | mix rs => simp only [Rw.about, Rw.ep, Rw.el]; exact ⟨trivial, trivial⟩
  | right r =>
    have h := ih r (by simp only [Rw.nodes]; omega) s
    cases s
    · simp only [Rw.about, Rw.ep, Rw.el, Bool.not_false, if_true, Bool.false_eq_true, if_false, Option.isSome_map]; exact h
    · simp only [Rw.about, Rw.ep, Rw.el, Bool.not_true, if_true, Bool.false_eq_true, if_false]; exact ⟨trivial, trivial⟩
  | left r =>
    have h := ih r (by simp only [Rw.nodes]; omega) s
    cases s
    · simp only [Rw.about, Rw.ep, Rw.el, Bool.not_false, if_true, Bool.false_eq_true, if_false]; exact ⟨trivial, trivial⟩
    · simp only [Rw.about, Rw.ep, Rw.el, Bool.not_true, if_true, Bool.false_eq_true, if_false, Option.isSome_map]; exact h
  | join rs =>
    rcases ends_of rs with rfl | ⟨f, l, hf, hl, mf, ml⟩
    · cases s <;> simp [Rw.about, Rw.aboutL, Rw.ep, Rw.el, Rw.epH, Rw.epL, Rw.elH, Rw.elL]
    have nf := Rw.nodes_mem mf
    have nl := Rw.nodes_mem ml
    have af : (rs.map Rw.about)[0]? = some f.about := by rw [List.getElem?_map, hf]; rfl
    have al : (rs.map Rw.about)[(rs.map Rw.about).length - 1]? = some l.about := by rw [List.length_map, List.getElem?_map, hl]; rfl
    cases s
    · have h := ih f (by simp only [Rw.nodes]; omega) false
      simp only [Rw.about, Rw.aboutL_eq, Rw.ep, Rw.el, Bool.not_false, if_true, Bool.false_eq_true, if_false, Option.isSome_map]
      rw [Rw.epL_eq true _ (rev_last _ af), Rw.elL_eq true _ (rev_last _ af), Rw.epH_eq false rs hf, Rw.elH_eq false rs hf]
      exact h
    · have h := ih l (by simp only [Rw.nodes]; omega) true
      simp only [Rw.about, Rw.aboutL_eq, Rw.ep, Rw.el, Bool.not_true, if_true, Bool.false_eq_true, if_false, Option.isSome_map]
      rw [Rw.epH_eq false _ (rev_first _ al), Rw.elH_eq false _ (rev_first _ al), Rw.epL_eq true rs hl, Rw.elL_eq true rs hl]
      exact h
/-- the step that an end takes -/
theorem ep_first {s : Bool} {r : Rw} {p : List Int} (h : r.ep s = some p) : (∃ c, r = .let c ∧ p = []) ∨ ∃ (k : Nat) (t : Rw) (p' : List Int), Step r [(k : Int)] t ∧ t.ep s = some p' ∧ p = (k : Int) :: p' ∧ r.el s = t.el s ∧ k ≤ r.nodes ∧
    (∀ key t', Step r key t' → ∃ j : Nat, key = [(j : Int)] ∧ (j = k ∨ (match r with | .left _ => k < j ∧ s = true | .right _ => k < j ∧ s = false | .join _ => if s then j < k else k < j | _ => False))) := by
  cases r with
  | «let» c => simp only [Rw.ep, Option.some.injEq] at h; exact .inl ⟨c, rfl, h.symm⟩
  | mix rs => simp only [Rw.ep] at h; cases h
  | right r =>
    right
    cases s
    · simp only [Rw.ep, Bool.false_eq_true, if_false, Option.map_eq_some_iff] at h
      obtain ⟨p', h1, rfl⟩ := h
      refine ⟨0, r, p', .right 0, h1, rfl, by simp only [Rw.el, Bool.false_eq_true, if_false], Nat.zero_le _, fun key t' st => ?_⟩
      cases st with
      | right i => exact ⟨i, rfl, by cases i with | zero => exact .inl rfl | succ i => exact .inr ⟨by omega, rfl⟩⟩
    · simp only [Rw.ep, if_true] at h; cases h
  | left r =>
    right
    cases s
    · simp only [Rw.ep, Bool.false_eq_true, if_false] at h; cases h
    · simp only [Rw.ep, if_true, Option.map_eq_some_iff] at h
      obtain ⟨p', h1, rfl⟩ := h
      refine ⟨0, r, p', .left 0, h1, rfl, by simp only [Rw.el, if_true], Nat.zero_le _, fun key t' st => ?_⟩
      cases st with
      | left i => exact ⟨i, rfl, by cases i with | zero => exact .inl rfl | succ i => exact .inr ⟨by omega, rfl⟩⟩
  | join rs =>
    right
    rcases ends_of rs with rfl | ⟨f, l, hf, hl, mf, ml⟩
    · cases s <;> simp [Rw.ep, Rw.epH, Rw.epL] at h
    have hlen := Rw.len_le rs
    cases s
    · simp only [Rw.ep, Bool.false_eq_true, if_false, Option.map_eq_some_iff] at h
      rw [Rw.epH_eq false rs hf] at h
      obtain ⟨p', h1, rfl⟩ := h
      refine ⟨0, f, p', .join 0 hf, h1, rfl, by simp only [Rw.el, Bool.false_eq_true, if_false]; exact Rw.elH_eq false rs hf, Nat.zero_le _, fun key t' st => ?_⟩
      cases st with
      | join i hi => exact ⟨i, rfl, by cases i with | zero => exact .inl rfl | succ i => exact .inr (by simp)⟩
    · simp only [Rw.ep, if_true, Option.map_eq_some_iff] at h
      rw [Rw.epL_eq true rs hl] at h
      obtain ⟨p', h1, rfl⟩ := h
      refine ⟨rs.length - 1, l, p', .join _ hl, h1, rfl, by simp only [Rw.el, if_true]; exact Rw.elL_eq true rs hl, by simp only [Rw.nodes]; omega, fun key t' st => ?_⟩
      cases st with
      | join i hi =>
        have := (List.getElem?_eq_some_iff.mp hi).1
        refine ⟨i, rfl, ?_⟩
        by_cases e : i = rs.length - 1
        · exact .inl e
        · exact .inr (by simp only [if_true]; omega)
theorem ep_way {s : Bool} (r : Rw) : ∀ {p : List Int} (n : Nat), r.ep s = some p → ∃ ss c, Way r p n ss c ∧ r.el s = some c := by
  refine rw_ind (P := fun r => ∀ {p : List Int} (n : Nat), r.ep s = some p → ∃ ss c, Way r p n ss c ∧ r.el s = some c) (fun r ih p n h => ?_) r
  rcases ep_first h with ⟨c, rfl, rfl⟩ | ⟨k, t, p', st, h1, rfl, h2, _, _⟩
  · exact ⟨[], c, .let c n, by simp only [Rw.el]⟩
  · obtain ⟨ss, c, w, e⟩ := ih t st.nodes (n + [(k : Int)].length) h1
    exact ⟨_, c, .step (key := [(k : Int)]) st w, by rw [h2]; exact e⟩
/-- one address is ahead of another: by the first step that differs, not in a mix -/
def keyA : Rw → List Int → List Int → Bool
  | .left _, a :: _, b :: _ => decide (a > b)
  | _, a :: _, b :: _ => decide (a < b)
  | _, _, _ => false
inductive Ahd : Rw → List Int → List Int → Bool → Prop
  | let (c : _root_.Fin 26) : Ahd (.let c) [] [] false
  | same {r s : Rw} {key p q : List Int} {b : Bool} (h : Step r key s) (t : Ahd s p q b) : Ahd r (key ++ p) (key ++ q) b
  | diff {r s s' : Rw} {k k' p q : List Int} (h : Step r k s) (h' : Step r k' s') (n : k ≠ k') (m : r.isM = false) : Ahd r (k ++ p) (k' ++ q) (keyA r k k')
theorem Step.det {r s s' : Rw} {key : List Int} (h : Step r key s) (h' : Step r key s') : s = s' := by
  generalize e : key = key' at h'
  cases h with
  | join k h =>
    cases h' with
    | join k' h' =>
      have : k = k' := by have := (List.cons.inj e).1; omega
      subst this
      rw [h] at h'; cases h'; rfl
  | right i => cases h'; rfl
  | left i => cases h'; rfl
  | mix k n h =>
    cases h' with
    | mix k' n' h' =>
      have e2 : k = k' ∧ n = n' := by have h1 := (List.cons.inj e).1; have h2 := (List.cons.inj (List.cons.inj e).2).1; omega
      obtain ⟨rfl, rfl⟩ := e2
      rw [h] at h'; cases h'; rfl
theorem ahd_first (r : Rw) : ∀ {p q : List Int}, r.ep false = some p → Ad r q → p ≠ q → Ahd r p q true := by
  refine rw_ind (P := fun r => ∀ {p q : List Int}, r.ep false = some p → Ad r q → p ≠ q → Ahd r p q true) (fun r ih p q h a n => ?_) r
  rcases ep_first h with ⟨c, rfl, rfl⟩ | ⟨k, t, p', st, h1, rfl, h2, hk, all⟩
  · cases a with
    | «let» c => exact absurd rfl n
    | step h t => cases h
  · cases a with
    | «let» c => cases st
    | @step _ s key q' hs tq =>
      obtain ⟨j, rfl, hj⟩ := all _ _ hs
      by_cases e : j = k
      · subst e
        have := hs.det st
        subst this
        exact .same (key := [(j : Int)]) hs (ih s hs.nodes h1 tq fun z => n (by rw [z]; rfl))
      · have hlt : k < j := by
          rcases hj with z | z
          · exact absurd z e
          · cases r <;> simp at z <;> first | exact z | (cases z) | skip
        have e1 : keyA r [(k : Int)] [(j : Int)] = true := by
          cases r with
          | left _ =>
            rcases hj with z | z
            · exact absurd z e
            · exact absurd z.2 (by decide)
          | _ => first | exact decide_eq_true (by omega)
        rw [← e1]
        exact .diff (k := [(k : Int)]) (k' := [(j : Int)]) st hs (fun z => e (by have := (List.cons.inj z).1; omega)) (by cases st <;> first | rfl | cases h)
theorem ahd_last (r : Rw) : ∀ {p q : List Int}, r.ep true = some p → Ad r q → q ≠ p → Ahd r q p true := by
  refine rw_ind (P := fun r => ∀ {p q : List Int}, r.ep true = some p → Ad r q → q ≠ p → Ahd r q p true) (fun r ih p q h a n => ?_) r
  rcases ep_first h with ⟨c, rfl, rfl⟩ | ⟨k, t, p', st, h1, rfl, h2, hk, all⟩
  · cases a with
    | «let» c => exact absurd rfl n
    | step h t => cases h
  · cases a with
    | «let» c => cases st
    | @step _ s key q' hs tq =>
      obtain ⟨j, rfl, hj⟩ := all _ _ hs
      by_cases e : j = k
      · subst e
        have := hs.det st
        subst this
        exact .same (key := [(j : Int)]) hs (ih s hs.nodes h1 tq fun z => n (by rw [z]; rfl))
      · have e1 : keyA r [(j : Int)] [(k : Int)] = true := by
          rcases hj with z | z
          · exact absurd z e
          · cases r with
            | left _ => exact decide_eq_true (by have := z.1; omega)
            | right _ => exact absurd z.2 (by decide)
            | join rs => simp only [if_true] at z; exact decide_eq_true (by omega)
            | mix rs => exact z.elim
            | «let» c => exact z.elim
        rw [← e1]
        exact .diff (k := [(j : Int)]) (k' := [(k : Int)]) hs st (fun z => e (by have := (List.cons.inj z).1; omega)) (by cases st <;> first | rfl | cases h)
theorem rdIx_all {xs : List PyData} {i : Int} {Q : RV → Prop} (h0 : 0 ≤ i) (h1 : i < xs.length) (h : ∀ v ∈ xs, Q (.va v)) : rdIx (.list xs) (.int i) Q := by
  obtain ⟨n, rfl⟩ := Int.eq_ofNat_of_zero_le h0
  have hn : n < xs.length := by omega
  exact rdIx_lst (List.getElem?_eq_getElem hn) (h _ (List.getElem_mem hn))
theorem rdIx_str {z : Str} {i : Int} {Q : RV → Prop} (hz : z.length ≤ sizeLine) (h0 : 0 ≤ i) (h1 : i < z.length) (h : ∀ c ∈ z.cps.toList, Q (.va (.str ⟨#[c]⟩))) : rdIx (.str z) (.int i) Q := by
  obtain ⟨n, rfl⟩ := Int.eq_ofNat_of_zero_le h0
  have hn : n < z.cps.toList.length := by have : z.length = z.cps.toList.length := by simp [Str.length]
                                          omega
  refine ⟨hz, ?_⟩
  rw [L2.atI_nat (List.getElem?_eq_getElem hn)]
  exact h _ (List.getElem_mem hn)
/-- numbers that are small -/
def Sm (p : List Int) : Prop := ∀ x ∈ p, 0 ≤ x ∧ x < 64
theorem Sm.app {p q : List Int} (h : Sm p) (h2 : Sm q) : Sm (p ++ q) := fun x m => by
  rcases List.mem_append.mp m with m | m
  · exact h x m
  · exact h2 x m
theorem Sm.nil : Sm [] := fun x m => by cases m
theorem Sm.one {x : Int} (h : 0 ≤ x ∧ x < 64) : Sm [x] := fun y m => by rw [List.mem_singleton.mp m]; exact h
theorem Sm.two {x y : Int} (h : 0 ≤ x ∧ x < 64) (h2 : 0 ≤ y ∧ y < 64) : Sm [x, y] := fun z m => by
  rcases List.mem_cons.mp m with rfl | m
  · exact h
  · rw [List.mem_singleton.mp m]; exact h2
theorem Rw.wfL_app (rs ss : List Rw) : Rw.wfL (rs ++ ss) = (Rw.wfL rs && Rw.wfL ss) := by
  induction rs with
  | nil => rfl
  | cons r rs ih => simp only [List.cons_append, Rw.wfL, ih, Bool.and_assoc]
theorem cut_pre {α : Type} (key p : List α) : cutD (key ++ p) none (some (key.length : Int)) = key := by rw [cut_to, List.take_left]
theorem cut_post {α : Type} (key p : List α) : cutD (key ++ p) (some (key.length : Int)) none = p := by rw [cut_from, List.drop_left]
theorem cut_preI (key p : List Int) : cutD ((key ++ p).map PyData.int) none (some (key.length : Int)) = key.map PyData.int := by rw [cutD_map, cut_pre]
theorem cut_postI (key p : List Int) : cutD ((key ++ p).map PyData.int) (some (key.length : Int)) none = p.map PyData.int := by rw [cutD_map, cut_post]
theorem ixC_word (r : Rw) (h : r.isL = false) {Q : RV → Prop} (q : Q (.va (.str r.word))) : ixC 0 r.toD Q := by
  cases r <;> first | exact q | cases h
theorem tup_eqv (p q : List Int) : PyData.eqv (.tuple (p.map PyData.int)) (.tuple (q.map PyData.int)) = decide (p = q) := ints_eqv p q
theorem tup_sh (p : List Int) : SeqAt.shaped (.tuple (p.map PyData.int)) = true := ints_sh p
theorem max_dep {rs : List Rw} (m : Int) (h : m ∈ rs.map (fun s => (s.dep : Int))) (h2 : ∀ y ∈ rs.map (fun s => (s.dep : Int)), y ≤ m) : m = (Rw.depL rs : Int) := by
  obtain ⟨r, hr, rfl⟩ := List.mem_map.mp h
  have h3 := Rw.dep_mem hr
  have h4 : Rw.depL rs ≤ r.dep := Rw.depL_le fun s ms => by
    have := h2 (s.dep : Int) (List.mem_map.mpr ⟨s, ms, rfl⟩)
    omega
  omega
theorem dep_eq (r : Rw) (h : r.isL = false) : r.dep = 1 + Rw.depL r.parts := by
  cases r <;> first | cases h | skip
  all_goals simp only [Rw.dep, Rw.parts, Rw.depL]; omega
end DL

set_option Elab.async false
set_option linter.all false
set_option maxRecDepth 100000
set_option maxHeartbeats 400000
/-! plain data of small numbers: its text, that it is equal to itself -/
namespace DL
open PySem PySem.Spec PyProof.Rows L2
variable [Tb]
/-- a place, or none -/
def optD : Option (List Int) → PyData
  | some p => intsD p
  | none => .none
def smI (i : Int) : Bool := decide (-128 ≤ i ∧ i < 128)
mutual
def pl : PyData → Bool
  | .none => true
  | .bool _ => true
  | .int i => smI i
  | .str s => PyData.strOk s && PyData.strOk (reprText s)
  | .list ds => plL ds
  | .tuple ds => plL ds
  | .dict _ => false
def plL : List PyData → Bool
  | [] => true
  | d :: ds => pl d && plL ds
end
mutual
def wt : PyData → Nat
  | .none => 4
  | .bool _ => 5
  | .int _ => 4
  | .str s => (reprText s).length
  | .list ds => wtL ds + 3
  | .tuple ds => wtL ds + 3
  | .dict _ => 0
def wtL : List PyData → Nat
  | [] => 0
  | d :: ds => wt d + 2 + wtL ds
end
theorem sm_facts : ∀ n : _root_.Fin 256, (PyData.int ((n.val : Int) - 128)).showable = true ∧ (PyData.int ((n.val : Int) - 128)).shown.length ≤ 4 ∧ PyData.strOk (PyData.int ((n.val : Int) - 128)).shown = true := by decide +kernel
theorem sm_int {i : Int} (h : smI i = true) : (PyData.int i).showable = true ∧ (PyData.int i).shown.length ≤ 4 ∧ PyData.strOk (PyData.int i).shown = true := by
  have h := of_decide_eq_true h
  have e : i = (((i + 128).toNat : Nat) : Int) - 128 := by omega
  have := sm_facts ⟨(i + 128).toNat, by omega⟩
  rw [e]
  exact this
theorem tx_bool : ∀ b : Bool, (PyData.bool b).shown.length ≤ 5 ∧ PyData.strOk (PyData.bool b).shown = true := by decide +kernel
mutual
theorem pl_facts : ∀ d : PyData, pl d = true → d.showable = true ∧ d.canLay0 = true ∧ d.shown.length ≤ wt d ∧ PyData.strOk d.shown = true ∧ PyData.eqv d d = true
  | .none, _ => ⟨rfl, rfl, by decide +kernel, ok_shownN, eqv_non⟩
  | .bool b, _ => ⟨rfl, rfl, (tx_bool b).1, (tx_bool b).2, by simp [PyData.eqv]⟩
  | .int i, h => by
    simp only [pl] at h
    have := sm_int h
    exact ⟨this.1, rfl, this.2.1, this.2.2, by simp [PyData.eqv]⟩
  | .str s, h => by
    simp only [pl, Bool.and_eq_true] at h
    exact ⟨rfl, h.1, Nat.le_refl _, h.2, eqv_str_self s⟩
  | .list ds, h => by
    simp only [pl] at h
    have t := plL_facts ds h
    have hl := list_len (PyData.shownAll ds)
    simp only [PyData.showable, PyData.canLay0, PyData.shown, wt, PyData.eqv]
    exact ⟨t.1, t.2.1, by omega, ok_lst t.2.2.2.1, t.2.2.2.2⟩
  | .tuple ds, h => by
    simp only [pl] at h
    have t := plL_facts ds h
    have hl := tup_len (PyData.shownAll ds)
    simp only [PyData.showable, PyData.canLay0, PyData.shown, wt, PyData.eqv]
    exact ⟨t.1, t.2.1, by omega, ok_tup t.2.2.2.1, t.2.2.2.2⟩
  | .dict _, h => by simp [pl] at h
theorem plL_facts : ∀ ds : List PyData, plL ds = true → PyData.showableAll ds = true ∧ PyData.canLayAll0 ds = true ∧ sumLen (PyData.shownAll ds) ≤ wtL ds ∧ okAll (PyData.shownAll ds) ∧ PyData.eqvAll ds ds = true
  | [], _ => ⟨rfl, rfl, Nat.le_refl _, trivial, by simp [PyData.eqvAll]⟩
  | d :: ds, h => by
    simp only [plL, Bool.and_eq_true] at h
    have h1 := pl_facts d h.1
    have t := plL_facts ds h.2
    simp only [PyData.showableAll, PyData.canLayAll0, PyData.shownAll, sumLen, wtL, okAll, PyData.eqvAll, h1.1, t.1, h1.2.1, t.2.1, h1.2.2.2.2, t.2.2.2.2, Bool.and_self, true_and, and_true]
    exact ⟨by have := h1.2.2.1; have := t.2.2.1; omega, h1.2.2.2.1, t.2.2.2.1⟩
end
theorem good_pl {d : PyData} (h : pl d = true) (hd : d.depth ≤ 64) (hw : wt d ≤ 10000000) : Good d := by
  have t := pl_facts d h
  have e := sizeLine_eq
  have s : SeqAt.shaped d = true := by
    unfold SeqAt.shaped
    rw [t.2.1, Bool.true_and]
    exact decide_eq_true hd
  exact ⟨⟨⟨t.1, s⟩, by have := t.2.2.1; omega⟩, s, sh_str t.2.2.2.1, t.2.2.2.2⟩
/-! ### tuples of small numbers -/
theorem pl_ints {p : List Int} (h : Sm p) : pl (intsD p) = true ∧ (intsD p).depth ≤ 1 ∧ wt (intsD p) = 6 * p.length + 3 := by
  have key : ∀ p : List Int, Sm p → plL (p.map PyData.int) = true ∧ wtL (p.map PyData.int) = 6 * p.length := by
    intro p
    induction p with
    | nil => intro _; exact ⟨rfl, rfl⟩
    | cons a p ih =>
      intro h
      have t := ih fun x m => h x (List.mem_cons_of_mem _ m)
      have ha := h a List.mem_cons_self
      simp only [List.map_cons, plL, wtL, pl, wt, t.1, t.2, List.length_cons, Bool.and_true]
      exact ⟨decide_eq_true (by omega), by omega⟩
  have k := key p h
  unfold intsD
  simp only [pl, wt, PyData.depth, k.1, k.2, (ints_lay p).2]
  exact ⟨trivial, by omega, trivial⟩
theorem pl_opt {o : Option (List Int)} (h : ∀ p, o = some p → Sm p ∧ p.length ≤ 100) : pl (optD o) = true ∧ (optD o).depth ≤ 1 ∧ wt (optD o) ≤ 700 := by
  cases o with
  | none => exact ⟨rfl, by simp [optD, PyData.depth], by simp [optD, wt]⟩
  | some p =>
    have hp := h p rfl
    have := pl_ints hp.1
    show pl (intsD p) = true ∧ _ ∧ _
    exact ⟨this.1, this.2.1, by show wt (intsD p) ≤ 700; omega⟩
theorem ep_sm {s : Bool} (r : Rw) : ∀ {p : List Int}, r.ep s = some p → (∀ x ∈ p, 0 ≤ x ∧ x ≤ r.nodes) ∧ p.length ≤ r.dep := by
  refine rw_ind (P := fun r => ∀ {p : List Int}, r.ep s = some p → (∀ x ∈ p, 0 ≤ x ∧ x ≤ r.nodes) ∧ p.length ≤ r.dep) (fun r ih p h => ?_) r
  rcases ep_first h with ⟨c, rfl, rfl⟩ | ⟨k, t, p', st, h1, rfl, h2, hk, _⟩
  · exact ⟨fun x m => (by cases m), Nat.zero_le _⟩
  · have := ih t st.nodes h1
    have hn := st.nodes
    have hd := st.dep
    refine ⟨fun x m => ?_, by simp only [List.length_cons]; omega⟩
    rcases List.mem_cons.mp m with rfl | m
    · omega
    · have := this.1 x m; omega
theorem good_opts {o1 o2 : Option (List Int)} (h1 : ∀ p, o1 = some p → Sm p ∧ p.length ≤ 100) (h2 : ∀ p, o2 = some p → Sm p ∧ p.length ≤ 100) : Good (.list [optD o1, optD o2]) := by
  have a := pl_opt h1
  have b := pl_opt h2
  refine good_pl ?_ ?_ ?_
  · simp only [pl, plL, a.1, b.1, Bool.and_self]
  · simp only [PyData.depth, PyData.depthAll]; omega
  · simp only [wt, wtL]; omega
/-- rows walked in a comprehension with a test -/
theorem lcW_rowsF {α : Type} {g : WG} {t : WB} {we : WR} {sd : SD} (to : α → PyData) (f : α → Bool) : ∀ (rs : List α) (Q : List PyData → Prop),
    (∀ r ∈ rs, ∀ (A : PyData → Prop) (B : Prop), (if f r = true then A (to r) else B) → g (to r) sd fun sd2 => t sd2 fun b => if b = true then we sd2 (fun z => A z.dat) else B) →
    Q ((rs.filter f).map to) → lcW g t we sd (rs.map to) Q
  | [], Q, _, q => q
  | r :: rs, Q, h, q => by
    refine h r List.mem_cons_self (fun x => lcW g t we sd (rs.map to) fun out => Q (x :: out)) _ ?_
    have ih : ∀ Q' : List PyData → Prop, Q' ((rs.filter f).map to) → lcW g t we sd (rs.map to) Q' := fun Q' q' => lcW_rowsF to f rs Q' (fun e m => h e (List.mem_cons_of_mem _ m)) q'
    by_cases e : f r = true
    · rw [if_pos e]
      refine ih _ ?_
      rw [List.filter_cons_of_pos e] at q
      exact q
    · rw [if_neg e]
      refine ih _ ?_
      rw [List.filter_cons_of_neg e] at q
      exact q
end DL

set_option Elab.async false
set_option linter.all false
set_option maxRecDepth 100000
set_option maxHeartbeats 400000
/-! rows laid, what is ahead of a place and behind it -/
namespace DL
open PySem PySem.Spec PyProof.Rows L2
variable [Tb]
def optR : Option Rw → PyData
  | some r => r.toD
  | none => .none
def laidR : List Rw → Option Rw
  | [] => none
  | [r] => some r
  | rs => some (.join (Rw.openedL rs))
mutual
theorem op_facts : ∀ r : Rw, (∀ s ∈ r.opened, s.opened = [s] ∧ s.dep ≤ r.dep) ∧ Rw.nodesL r.opened ≤ r.nodes
  | .let c => by simp [Rw.opened, Rw.dep, Rw.nodes, Rw.nodesL]
  | .right r => by simp [Rw.opened, Rw.dep, Rw.nodes, Rw.nodesL]
  | .left r => by simp [Rw.opened, Rw.dep, Rw.nodes, Rw.nodesL]
  | .mix rs => by simp [Rw.opened, Rw.dep, Rw.nodes, Rw.nodesL]
  | .join rs => by
    have h := opL_facts rs
    simp only [Rw.opened, Rw.dep, Rw.nodes]
    exact ⟨fun s m => ⟨(h.1 s m).1, by have := (h.1 s m).2; omega⟩, by have := h.2; omega⟩
theorem opL_facts : ∀ rs : List Rw, (∀ s ∈ Rw.openedL rs, s.opened = [s] ∧ s.dep ≤ Rw.depL rs) ∧ Rw.nodesL (Rw.openedL rs) ≤ Rw.nodesL rs
  | [] => by simp [Rw.openedL, Rw.nodesL]
  | r :: rs => by
    have h1 := op_facts r
    have h2 := opL_facts rs
    simp only [Rw.openedL, Rw.depL, Rw.nodesL, Rw.nodesL_app]
    refine ⟨fun s m => ?_, by have := h1.2; have := h2.2; omega⟩
    rcases List.mem_append.mp m with m | m
    · exact ⟨(h1.1 s m).1, by have := (h1.1 s m).2; omega⟩
    · exact ⟨(h2.1 s m).1, by have := (h2.1 s m).2; omega⟩
end
theorem laidR_facts (rs : List Rw) {t : Rw} (h : laidR rs = some t) : t.dep ≤ Rw.depL rs + 1 ∧ t.nodes ≤ Rw.nodesL rs + 1 := by
  match rs, h with
  | [r], h => cases h; simp only [Rw.depL, Rw.nodesL]; omega
  | r :: s :: rest, h =>
    cases h
    have f := opL_facts (r :: s :: rest)
    simp only [Rw.dep, Rw.nodes]
    exact ⟨by have := Rw.depL_le fun s m => (f.1 s m).2; omega, by have := f.2; omega⟩
theorem laidR_none (rs : List Rw) : laidR rs = none ↔ rs = [] := by
  match rs with
  | [] => simp [laidR]
  | [r] => simp [laidR]
  | r :: s :: rest => simp [laidR]
/-- what else is there on one side of a step -/
def beyond (s : Bool) : Rw → List Int → List Rw
  | .join rs, k :: _ => if s then rs.drop (k.toNat + 1) else rs.take k.toNat
  | .right r, i :: _ => if s then [.right r] else List.replicate i.toNat r
  | .left r, i :: _ => if s then List.replicate i.toNat r else [.left r]
  | r, _ => [r]
def sideF (s : Bool) : List (Rw × List Int × Nat) → Option Rw
  | [] => none
  | x :: ss => laidR (if s then (sideF s ss).toList ++ beyond s x.1 x.2.1 else beyond s x.1 x.2.1 ++ (sideF s ss).toList)
theorem nodesL_take (rs : List Rw) (k : Nat) : Rw.nodesL (rs.take k) + Rw.nodesL (rs.drop k) = Rw.nodesL rs := by
  rw [← Rw.nodesL_app, List.take_append_drop]
theorem repl_nodesL (r : Rw) : ∀ n : Nat, Rw.nodesL (List.replicate n r) = n * r.nodes
  | 0 => by simp [Rw.nodesL]
  | n + 1 => by rw [List.replicate_succ]; simp only [Rw.nodesL, repl_nodesL r n, Nat.succ_mul]; omega
theorem beyond_facts (s : Bool) {r t : Rw} {key : List Int} (st : Step r key t) (h : Sm key) : Rw.depL (beyond s r key) ≤ r.dep ∧ Rw.nodesL (beyond s r key) ≤ 64 * r.nodes := by
  cases st with
  | @join rs _ k hk =>
    have e : ((k : Int)).toNat = k := Int.toNat_natCast k
    have t1 := nodesL_take rs k
    have t2 := nodesL_take rs (k + 1)
    cases s
    · simp only [beyond, e, Bool.false_eq_true, if_false, Rw.dep, Rw.nodes]
      exact ⟨by have := Rw.depL_le (n := Rw.depL rs) (rs := rs.take k) fun x m => Rw.dep_mem (List.mem_of_mem_take m); omega, by omega⟩
    · simp only [beyond, e, if_true, Rw.dep, Rw.nodes]
      exact ⟨by have := Rw.depL_le (n := Rw.depL rs) (rs := rs.drop (k + 1)) fun x m => Rw.dep_mem (List.mem_of_mem_drop m); omega, by omega⟩
  | right i =>
    have hi := h _ List.mem_cons_self
    have e : ((i : Int)).toNat = i := Int.toNat_natCast i
    cases s
    · simp only [beyond, e, Bool.false_eq_true, if_false, Rw.dep, Rw.nodes, repl_nodesL]
      refine ⟨by have := Rw.depL_le (n := t.dep) (rs := List.replicate i t) fun x m => by rw [List.eq_of_mem_replicate m]; exact Nat.le_refl _
                 omega, ?_⟩
      have := Nat.mul_le_mul_right t.nodes (show i ≤ 64 by omega)
      omega
    · simp only [beyond, if_true, Rw.dep, Rw.nodes, Rw.depL, Rw.nodesL]
      omega
  | left i =>
    have hi := h _ List.mem_cons_self
    have e : ((i : Int)).toNat = i := Int.toNat_natCast i
    cases s
    · simp only [beyond, Bool.false_eq_true, if_false, Rw.dep, Rw.nodes, Rw.depL, Rw.nodesL]
      omega
    · simp only [beyond, e, if_true, Rw.dep, Rw.nodes, repl_nodesL]
      refine ⟨by have := Rw.depL_le (n := t.dep) (rs := List.replicate i t) fun x m => by rw [List.eq_of_mem_replicate m]; exact Nat.le_refl _
                 omega, ?_⟩
      have := Nat.mul_le_mul_right t.nodes (show i ≤ 64 by omega)
      omega
  | mix k n hk =>
    simp only [beyond, Rw.dep, Rw.nodes, Rw.depL, Rw.nodesL]
    omega
theorem Sm.of_app {p q : List Int} (h : Sm (p ++ q)) : Sm p ∧ Sm q := ⟨fun x m => h x (List.mem_append_left _ m), fun x m => h x (List.mem_append_right _ m)⟩
theorem toList_dep (o : Option Rw) : Rw.depL o.toList = (match o with | some t => t.dep | none => 0) := by
  cases o <;> simp [Rw.depL]
theorem toList_nodes (o : Option Rw) : Rw.nodesL o.toList = (match o with | some t => t.nodes | none => 0) := by
  cases o <;> simp [Rw.nodesL]
theorem side_facts (s : Bool) {r : Rw} {p : List Int} {n : Nat} {ss : List (Rw × List Int × Nat)} {c : _root_.Fin 26} (w : Way r p n ss c) (M : Nat) :
    Sm p → 64 * r.nodes + 1 ≤ M → ∀ t, sideF s ss = some t → t.dep ≤ r.dep + ss.length ∧ t.nodes ≤ ss.length * M := by
  induction w with
  | «let» c n => intro _ _ t h; cases h
  | @step r u key0 p n ss c st w ih =>
    intro hs hN t h
    obtain ⟨h1, h2⟩ := hs.of_app
    have hn := st.nodes
    have hd := st.dep
    have b := beyond_facts s st h1
    have i := ih h2 (by omega)
    simp only [sideF] at h
    have f := laidR_facts _ h
    have key : Rw.depL (sideF s ss).toList ≤ u.dep + ss.length ∧ Rw.nodesL (sideF s ss).toList ≤ ss.length * M := by
      rw [toList_dep, toList_nodes]
      cases e : sideF s ss with
      | none => simp
      | some v => exact i v e
    rw [List.length_cons, Nat.add_mul, Nat.one_mul]
    generalize ss.length * M = Z at key
    cases s
    · simp only [Bool.false_eq_true, if_false, Rw.depL_app, Rw.nodesL_app] at f
      omega
    · simp only [if_true, Rw.depL_app, Rw.nodesL_app] at f
      omega
/-- nothing is ahead of the first place, or behind the last one, alone -/
theorem side_none (s : Bool) {r : Rw} {p : List Int} {n : Nat} {ss : List (Rw × List Int × Nat)} {c : _root_.Fin 26} (w : Way r p n ss c) : sideF s ss = none ↔ r.ep s = some p := by
  induction w with
  | «let» c n => simp [sideF, Rw.ep]
  | @step r u key p n ss c st w ih =>
    have e1 : sideF s ((r, key, n) :: ss) = none ↔ (beyond s r key = [] ∧ sideF s ss = none) := by
      simp only [sideF]
      rw [laidR_none]
      cases s
      · simp only [Bool.false_eq_true, if_false, List.append_eq_nil_iff, Option.toList_eq_nil_iff]
      · simp only [if_true, List.append_eq_nil_iff, Option.toList_eq_nil_iff]; exact And.comm
    rw [e1, ih]
    cases st with
    | @join rs _ k hk =>
      have e : ((k : Int)).toNat = k := Int.toNat_natCast k
      have hk2 := (List.getElem?_eq_some_iff.mp hk).1
      cases s
      · simp only [beyond, e, Bool.false_eq_true, if_false, Rw.ep, List.take_eq_nil_iff, List.cons_append, List.nil_append, Option.map_eq_some_iff, List.cons.injEq]
        constructor
        · rintro ⟨z, h⟩
          have k0 : k = 0 := by
            rcases z with z | z
            · exact z
            · rw [z] at hk2; simp at hk2
          subst k0
          exact ⟨p, by rw [Rw.epH_eq false rs hk]; exact h, rfl, rfl⟩
        · rintro ⟨q, h, h0, rfl⟩
          have k0 : k = 0 := by omega
          subst k0
          rw [Rw.epH_eq false rs hk] at h
          exact ⟨.inl rfl, h⟩
      · simp only [beyond, e, if_true, Rw.ep, List.drop_eq_nil_iff, List.cons_append, List.nil_append, Option.map_eq_some_iff, List.cons.injEq]
        constructor
        · rintro ⟨z, h⟩
          have k0 : k = rs.length - 1 := by omega
          subst k0
          exact ⟨p, by rw [Rw.epL_eq true rs hk]; exact h, rfl, rfl⟩
        · rintro ⟨q, h, h0, rfl⟩
          have k0 : k = rs.length - 1 := by omega
          subst k0
          rw [Rw.epL_eq true rs hk] at h
          exact ⟨by omega, h⟩
    | right i =>
      have e : ((i : Int)).toNat = i := Int.toNat_natCast i
      cases s
      · simp only [beyond, e, Bool.false_eq_true, if_false, Rw.ep, List.replicate_eq_nil_iff, List.cons_append, List.nil_append, Option.map_eq_some_iff, List.cons.injEq]
        constructor
        · rintro ⟨rfl, h⟩; exact ⟨p, h, rfl, rfl⟩
        · rintro ⟨q, h, h0, rfl⟩; exact ⟨by omega, h⟩
      · simp [beyond, Rw.ep]
    | left i =>
      have e : ((i : Int)).toNat = i := Int.toNat_natCast i
      cases s
      · simp [beyond, Rw.ep]
      · simp only [beyond, e, if_true, Rw.ep, List.replicate_eq_nil_iff, List.cons_append, List.nil_append, Option.map_eq_some_iff, List.cons.injEq]
        constructor
        · rintro ⟨rfl, h⟩; exact ⟨p, h, rfl, rfl⟩
        · rintro ⟨q, h, h0, rfl⟩; exact ⟨by omega, h⟩
    | mix k n hk => simp [beyond, Rw.ep]
theorem ixC_wordA (r : Rw) {Q : RV → Prop} (q : Q (.va (.str r.word))) : ixC 0 r.toD Q := by
  cases r with
  | «let» c =>
    refine ⟨by show 1 ≤ sizeLine; decide, ?_⟩
    show match atI [97 + c.val] 0 with | some c => Q (.va (.str ⟨#[c]⟩)) | none => False
    rw [atI0]
    exact q
  | _ => exact q
theorem opened_not {r : Rw} (h : r.isJ = false) : r.opened = [r] := by cases r <;> first | rfl | cases h | simp only [Rw.opened]
theorem isJ_join {r : Rw} (h : r.isJ = true) : ∃ rs, r = .join rs := by cases r <;> first | exact ⟨_, rfl⟩ | cases h
mutual
theorem pl_row : ∀ r : Rw, pl r.toD = true ∧ wt r.toD + 2 ≤ 30 * r.nodes
  | .let c => by
    simp only [Rw.toD, pl, wt, Rw.nodes, ok_let, okr_let, rl_let, Bool.and_self]
    exact ⟨trivial, by omega⟩
  | .join rs => by
    have h := pl_rowL rs
    have := rl_words
    simp only [Rw.toD, pl, plL, wt, wtL, Rw.nodes, ok_sJ, okr_words.1, h.1, Bool.and_self]
    exact ⟨trivial, by omega⟩
  | .right r => by
    have h := pl_row r
    have := rl_words
    simp only [Rw.toD, pl, plL, wt, wtL, Rw.nodes, ok_sR, okr_words.2.1, h.1, Bool.and_self]
    exact ⟨trivial, by omega⟩
  | .left r => by
    have h := pl_row r
    have := rl_words
    simp only [Rw.toD, pl, plL, wt, wtL, Rw.nodes, ok_sL, okr_words.2.2.1, h.1, Bool.and_self]
    exact ⟨trivial, by omega⟩
  | .mix rs => by
    have h := pl_rowL rs
    have := rl_words
    simp only [Rw.toD, pl, plL, wt, wtL, Rw.nodes, ok_sM, okr_words.2.2.2, h.1, Bool.and_self]
    exact ⟨trivial, by omega⟩
theorem pl_rowL : ∀ rs : List Rw, plL (Rw.toDs rs) = true ∧ wtL (Rw.toDs rs) ≤ 30 * Rw.nodesL rs
  | [] => ⟨rfl, Nat.zero_le _⟩
  | r :: rs => by
    have h1 := pl_row r
    have h2 := pl_rowL rs
    simp only [Rw.toDs, plL, wtL, Rw.nodesL, h1.1, h2.1, Bool.and_self]
    exact ⟨trivial, by omega⟩
end
theorem pl_optR {o : Option Rw} (h : ∀ t, o = some t → t.dep ≤ 30 ∧ t.nodes ≤ 100000) : pl (optR o) = true ∧ (optR o).depth ≤ 60 ∧ wt (optR o) ≤ 3000000 := by
  cases o with
  | none => exact ⟨rfl, by simp [optR, PyData.depth], by simp [optR, wt]⟩
  | some t =>
    have ht := h t rfl
    have a := pl_row t
    have b := t.lay
    show pl t.toD = true ∧ t.toD.depth ≤ 60 ∧ wt t.toD ≤ 3000000
    exact ⟨a.1, by have := b.2; omega, by have := a.2; omega⟩
theorem good_optRs {a b : Option Rw} (h1 : ∀ t, a = some t → t.dep ≤ 30 ∧ t.nodes ≤ 100000) (h2 : ∀ t, b = some t → t.dep ≤ 30 ∧ t.nodes ≤ 100000) : Good (.list [optR a, optR b]) := by
  have x := pl_optR h1
  have y := pl_optR h2
  refine good_pl ?_ ?_ ?_
  · simp only [pl, plL, x.1, y.1, Bool.and_self]
  · simp only [PyData.depth, PyData.depthAll]; omega
  · simp only [wt, wtL]; omega
theorem dEq_opt {p : List Int} {o : Option (List Int)} {Q : Bool → Prop} (q : Q (decide (o = some p))) : dEq (intsD p) (optD o) Q := by
  cases o with
  | none =>
    have e : decide (none = some p) = false := decide_eq_false (by simp)
    rw [e] at q
    exact ⟨⟨ints_sh p, sh_non⟩, by show Q (PyData.eqv (.tuple (p.map PyData.int)) .none); simpa only [PyData.eqv] using q⟩
  | some x =>
    refine ⟨⟨ints_sh p, ints_sh x⟩, ?_⟩
    show Q (PyData.eqv (intsD p) (intsD x))
    rw [ints_eqv]
    have e : decide (p = x) = decide (some x = some p) := by
      by_cases h : p = x
      · subst h; simp
      · rw [decide_eq_false h, decide_eq_false (fun z => h (Option.some.inj z).symm)]
    rw [e]; exact q
end DL

set_option Elab.async false
set_option linter.all false
set_option maxRecDepth 100000
set_option maxHeartbeats 4000000
/-! the law's end where defs have tables of code objects that grow -/
namespace DL
open PySem PySem.Spec PyProof.Rows L2
abbrev eTab : Obj := { cls := .none, data := .fields #[] }
/-- what the law is asked: some ints, the tables there, True -/
def spLaw [Tb] (K : PySem.W.Frag) : Sp := fun vs H Q _ => ∃ (a : Addr) (ns : List Int), vs = [.ref a] ∧ SqL K H a (ns.map V.int) ∧ ns.length ≤ 63 ∧ (∀ P ∈ (Tb.Ts : List Addr), GxR.TabG H P) ∧ ∀ H', Q (.bl true) H'
theorem tabG_new {H : Hp} {P : Addr} (h : H P = some (.tbl #[])) : GxR.TabG H P := ⟨#[], h, by first | exact .nil | exact True.intro | simp [TriplesOk]⟩
structure TabsAt (K : PySem.W.Frag) (h : Heap) (cs : List (Addr × Addr)) : Prop where
  emp : ∀ p ∈ cs, h.get? p.2 = some eTab
  out : ∀ p ∈ cs, K.lookup p.2 = none
  hd : ∀ p ∈ cs, PySem.W.CodeHd h p.1 p.2
theorem lawT_call {P : Program} {w : World} {K : PySem.W.Frag} {mg mb : Str → Option Value} {k : Nat} {fa a : Addr} {cs : List (Addr × Addr)} {fd : FuncData} {x : Str} {sp : Sp} {s₁ : Shared} {vs : List Value} {ns : List Int}
    (KX : K.In s₁.heap) (gl : s₁.heap.Ns mainGlobals mg) (bl : s₁.heap.Ns builtinsNs mb) (boot : ∀ x : Str, x ≠ "__name__" → mb x = bootBuiltins x) (lim : s₁.heap.NoLimit) (ng : s₁.gens = #[]) (T : TabsAt K s₁.heap cs)
    (mn : ∃ (bm : Addr) (ob : Obj), mg "__builtins__" = some (.ref bm) ∧ bm ≠ builtinsNs ∧ s₁.heap.get? bm = some ob ∧ ob.cls = .type "module" ∧ ob.dict = some builtinsNs ∧ ob.data = .plain)
    (here : s₁.heap.get? a = some { cls := .type "list", data := .seq vs.toArray }) (ia : IntsAre vs ns) (hl : ns.length ≤ sizeLine) (hr : RmG k callerA)
    (F : ∀ base : Heap, K.In base → base.Ns mainGlobals mg → (∀ p ∈ cs, GxR.TabB base mg p.1 p.2) → FnG P w K mg base CX0 k fa fd [x] sp) (bind : ∀ (s : Shared) (u : Value), BindsTo s fd ⟨[u], []⟩ [(x, u)])
    (ask : ∀ H : Hp, (∀ p ∈ cs, H p.2 = some (.tbl #[])) → SqL K H a (ns.map V.int) → sp [.ref a] H (fun v _ => v = .bl true) fun _ _ _ => False) :
    codeAny (model P w) callerA (.call (.ref fa) ⟨[.ref a], []⟩) (fun r s' => r = .ok (.ret (.bool true)) ∧ OldK s₁.heap s'.heap ∧ s'.os = s₁.os ∧ AllBare s'.gens) s₁ := by
  have rv : Vals (ns.map V.int) vs := vals_ints ia
  have lv := ia.length
  -- a place in the abstract heap holds nothing, an empty table, or the script
  suffices core : ∃ H : Hp, (∀ p ∈ cs, H p.2 = some (.tbl #[])) ∧ SqL K H a (ns.map V.int) ∧ HOk P w H s₁.heap ∧
      (∀ b u, H b = some u → (∃ p ∈ cs, b = p.2 ∧ u = .tbl #[]) ∨ (b = a ∧ K.lookup a = none ∧ ∃ o xs, u = .frz o (.lst xs))) by
    obtain ⟨H, hT, hS, hok, hA⟩ := core
    -- what stands there and is no list and no empty table is untouched
    have other : ∀ {b : Addr} {o : Obj}, s₁.heap.get? b = some o → o ≠ eTab → (∀ xs n, o.data ≠ .seq xs n) → H b = none := fun {b o} e n1 n2 => by
      cases q : H b with
      | none => rfl
      | some u =>
        rcases hA b u q with ⟨p, m, rfl, _⟩ | ⟨rfl, _, _⟩
        · rw [T.emp p m] at e; exact (n1 (Option.some.inj e).symm).elim
        · rw [here] at e; cases e; exact (n2 _ _ rfl).elim
    have kept : ∀ {b : Addr} {o : Obj}, s₁.heap.get? b = some o → H b = none → (hidT s₁.heap H).get? b = some o := hidT_get
    have dicts : ∀ {b : Addr} {o : Obj} {es : Array DictEntry} {ep : Nat}, s₁.heap.get? b = some o → o.data = .dict es ep → H b = none := fun {b o es ep} e d =>
      other e (fun z => by rw [z] at d; cases d) (fun xs n z => by rw [d] at z; cases z)
    have names : ∀ {b : Addr} {m : Str → Option Value}, s₁.heap.Ns b m → (hidT s₁.heap H).Ns b m := by
      rintro b m ⟨o, es, ep, e, d, r⟩
      exact ⟨o, es, ep, kept e (dicts e d), d, r⟩
    have inK : K.In (hidT s₁.heap H) := fun b o e => by
      refine kept (KX b o e) ?_
      cases q : H b with
      | none => rfl
      | some u =>
        rcases hA b u q with ⟨p, m, rfl, _⟩ | ⟨rfl, z, _⟩
        · rw [T.out p m] at e; cases e
        · rw [z] at e; cases e
    have tb : ∀ p ∈ cs, GxR.TabB (hidT s₁.heap H) mg p.1 p.2 := fun p m => by
      refine ⟨?_, ?_, fun z => ?_⟩
      · obtain ⟨o, us, f1, f2, f3, f4, f5, f6, f7, g1, g2, g3, g4, g5, g6, g7, g8, g9, g10⟩ := T.hd p m
        exact ⟨o, us, f1, f2, f3, f4, f5, f6, f7, kept g1 (other g1 (fun z => by rw [z] at g2; cases g2) fun xs n z => by rw [g3] at z; cases z), g2, g3, g4, g5, g6, g7, g8, g9, g10⟩
      · obtain ⟨bm, ob, b1, b2, b3, b4, b5, b6⟩ := mn
        refine ⟨bm, ob, b1, b2, fun z => ?_, fun z => ?_, kept b3 (other b3 (fun z => by rw [z] at b6; cases b6) fun xs n z => by rw [b6] at z; cases z), b4, b5, b6⟩
        · obtain ⟨o, es, ep, e, hd, _⟩ := gl
          rw [← z, b3] at e
          cases e
          rw [b6] at hd; cases hd
        · have := T.emp p m
          rw [← z, b3] at this
          cases this
          cases b6
      · obtain ⟨o, es, ep, e, hd, _⟩ := gl
        rw [z, T.emp p m] at e
        cases e
        cases hd
    obtain ⟨mc, l1, l2⟩ := lim
    have e0 : Env0 P w K mg (hidT s₁.heap H) callerA [] s₁ H :=
      ⟨rfl, ⟨inK, names gl, ⟨mb, names bl, boot⟩, mc, names l1, l2⟩, fun b o e => of_hidT e, Nat.le_of_eq (hidT_size _ _), trivial, fun b m => (by cases m), hok, .of_eq ng⟩
    apply codeAny_mono ((F _ inK (names gl) tb).run callerA [] s₁ H ⟨[.ref a], []⟩ [.ref a] [.ref a] _ _ hr e0 (bind s₁ (.ref a)) (.cons rfl .nil) (ask H hT hS))
    intro r s' h
    match r, h with
    | .error _, h => exact h.elim
    | .ok .next, h => exact h.elim
    | .ok .brk, h => exact h.elim
    | .ok .cont, h => exact h.elim
    | .ok (.ret u), ⟨v, H', os, bare, un, hok', r', q⟩ =>
      have q' : v = .bl true := q
      subst q'
      cases r'
      -- each old thing: as it was, or a table that grew
      have each : ∀ b o, s₁.heap.get? b = some o → s'.heap.get? b = some o ∨ ∃ p ∈ cs, b = p.2 ∧ ∃ more : Array Value, s'.heap.get? b = some { cls := .none, data := .fields more } := fun b o e => by
        cases q : H b with
        | none => exact .inl (un.keep b o e q (fun z => by cases z) (fun z => by cases z))
        | some u =>
          rcases hA b u q with ⟨p, m, rfl, rfl⟩ | ⟨rfl, _, ob, xs, rfl⟩
          · obtain ⟨more, z⟩ := un.tbls p.2 #[] q
            exact .inr ⟨p, m, rfl, _, hok' p.2 _ z⟩
          · obtain ⟨e1, _⟩ := hok b _ q
            obtain ⟨e2, _⟩ := hok' b _ (un.frzs b ob _ q)
            rw [e] at e1
            cases e1
            exact .inl e2
      refine ⟨rfl, ⟨fun b o e => ?_, fun b o e => ?_⟩, os, bare⟩
      · rcases each b o e with z | ⟨p, m, rfl, more, z⟩
        · exact .inl z
        · rw [T.emp p m] at e
          cases e
          exact .inr (.inl ⟨((T.hd p m).tab (T.emp p m)).isCodeTable, rfl, #[], more, rfl, by rw [Array.empty_append]; exact z⟩)
      · rcases each b o e with z | ⟨p, m, rfl, more, z⟩
        · exact ⟨o, z⟩
        · exact ⟨_, z⟩
  have aT : ∀ p ∈ cs, p.2 ≠ a := fun p m z => by
    have := T.emp p m
    rw [z, here] at this
    cases this
  have isT : ∀ b, (∃ p ∈ cs, b = p.2) → s₁.heap.get? b = some eTab := fun b ⟨p, m, z⟩ => by rw [z]; exact T.emp p m
  cases hk : K.lookup a with
  | some o =>
    have e := KX a o hk
    rw [here] at e
    cases e
    classical
    refine ⟨fun b => if ∃ p ∈ cs, b = p.2 then some (.tbl #[]) else none, fun p m => if_pos ⟨p, m, rfl⟩, .inr ⟨_, vs.toArray, _, hk, rfl, rfl, rfl, by rw [List.size_toArray, lv]; exact hl, by simpa using rv⟩, fun b u z => ?_, fun b u z => ?_⟩
    · by_cases e : ∃ p ∈ cs, b = p.2
      · have z' := (if_pos e).symm.trans z
        cases z'
        exact isT b e
      · have z' := (if_neg e).symm.trans z
        cases z'
    · by_cases e : ∃ p ∈ cs, b = p.2
      · have z' := (if_pos e).symm.trans z
        cases z'
        obtain ⟨p, m, z⟩ := e
        exact .inl ⟨p, m, z, rfl⟩
      · have z' := (if_neg e).symm.trans z
        cases z'
  | none =>
    classical
    refine ⟨fun b => if ∃ p ∈ cs, b = p.2 then some (.tbl #[]) else if b = a then some (.frz { cls := .type "list", data := .seq vs.toArray } (.lst (ns.map V.int))) else none, fun p m => if_pos ⟨p, m, rfl⟩, .inl (.inr ⟨_, (if_neg fun ⟨p, m, z⟩ => aT p m z.symm).trans (if_pos rfl)⟩), fun b u z => ?_, fun b u z => ?_⟩
    · by_cases e : ∃ p ∈ cs, b = p.2
      · have z' := (if_pos e).symm.trans z
        cases z'
        exact isT b e
      · have z1 := (if_neg e).symm.trans z
        by_cases e2 : b = a
        · have z' := (if_pos e2).symm.trans z1
          cases z'
          subst e2
          exact ⟨here, by rw [List.length_map]; exact hl, vs, _, rv, here⟩
        · have z' := (if_neg e2).symm.trans z1
          cases z'
    · by_cases e : ∃ p ∈ cs, b = p.2
      · have z' := (if_pos e).symm.trans z
        cases z'
        obtain ⟨p, m, z⟩ := e
        exact .inl ⟨p, m, z, rfl⟩
      · have z1 := (if_neg e).symm.trans z
        by_cases e2 : b = a
        · have z' := (if_pos e2).symm.trans z1
          cases z'
          exact .inr ⟨e2, rfl, _, _, rfl⟩
        · have z' := (if_neg e2).symm.trans z1
          cases z'
/-- the defs' own tables at the head: empty -/
def OwnT (q : Program) (mg : Str → Option Value) (h : Heap) : Prop := ∀ nm : Str, ((recsOf q).any fun e => e.name == nm) = true →
  ∃ (f c P : Addr) (o : Obj) (fd : FuncData), mg nm = some (.ref f) ∧ h.get? f = some o ∧ o.data = .func fd ∧ fd.code = .ref c ∧ PySem.W.CodeHd h c P ∧ h.get? P = some eTab
/-- the goal that the head leaves -/
theorem walkT {l : PySem.W.OpenLaw} {k : Nat} {q : Program} {loose : List Str} {XP : (Str → Option Value) → Heap → Prop} {YP : World → Heap → Prop} {d : DefRec} {K : Params → PySem.W.Frag}
    (hn : l.most = some 63) (hdf : d.params.defaults = []) (hr : RmG k callerA) (hY : ∀ (w : World) (h : Heap), YP w h → (K w.params).In h)
    (F : ∀ (w : World) (mg : Str → Option Value) (fa : Addr) (h : Heap), (K w.params).In h → h.Ns mainGlobals mg → mg d.name = some (.ref fa) → OwnT q mg h →
      ∃ (cs : List (Addr × Addr)) (fd : FuncData), TabsAt (K w.params) h cs ∧ (∀ (s : Shared) (u : Value), BindsTo s fd ⟨[u], []⟩ [("_law_script", u)]) ∧
        ∀ base : Heap, (K w.params).In base → base.Ns mainGlobals mg → (∀ p ∈ cs, GxR.TabB base mg p.1 p.2) → FnG l.prog w (K w.params) mg base CX0 k fa fd ["_law_script"] (@spLaw ⟨cs.map (·.2)⟩ (K w.params))) :
    PySem.W.WalkO q loose XP YP l.row.toRowW d [] (fun f vs => PySem.call f vs) := by
  apply Att.attach_call hn hdf
  intro w s₀ s₁ mg mb fa o pm cd doc a vs ns G Y ho hd hcd hmg hobj hints hlen hg
  have inK := hY w _ Y
  have own : OwnT q mg s₁.heap := fun nm hnm => by
    obtain ⟨dL, m, e⟩ := List.any_eq_true.mp hnm
    have e : dL.name = nm := beq_iff_eq.mp e
    obtain ⟨f, o', fd', c, P, h1, h2, h3, h4, h5, h6⟩ := G.T.tab dL m
    rw [e] at h1
    exact ⟨f, c, P, o', fd', h1, h2, h3, h4, PySem.W.CodeHd.of h5 h6, h6.2⟩
  obtain ⟨cs, fd, T, hb, hF⟩ := F w mg fa _ inK G.T.g hmg own
  refine lawT_call inK G.T.g G.T.b G.T.builtins G.T.nolimit hg T G.T.bmain hobj hints (Nat.le_trans hlen (by decide)) hr hF hb fun H hT hS => ?_
  refine ⟨a, ns, rfl, hS, hlen, fun P m => ?_, fun _ => rfl⟩
  obtain ⟨p, mp, rfl⟩ := List.mem_map.mp m
  exact tabG_new (hT p mp)
/-- the table that a code object names -/
def tabO (K : PySem.W.Frag) (c : Addr) : Addr := match K.lookup c with
  | some o => (match o.data with
    | .fields vs => (match (vs[11]? : Option Value) with
      | some (.ref P) => P
      | _ => 0)
    | _ => 0)
  | none => 0
theorem own_at {q : Program} {mg : Str → Option Value} {h : Heap} {K : PySem.W.Frag} {nm qual : Str} {st : Stmt} {f : Addr} {fd : FuncData} {o : Obj} {c : Addr} (W : OwnT q mg h) (X : K.In h) (hr : ((recsOf q).any fun e => e.name == nm) = true)
    (hm : mg nm = some (.ref f)) (lk : K.lookup f = some o) (hd : o.data = .func fd) (hc : fd.code = .ref c) (hk : (K.lookup c).isSome = true) :
    h.get? (tabO K c) = some eTab ∧ PySem.W.CodeHd h c (tabO K c) := by
  obtain ⟨f', c', P, o', fd', h1, h2, h3, h4, h5, h6⟩ := W nm hr
  rw [hm] at h1; cases h1
  rw [X _ _ lk] at h2; cases h2
  rw [hd] at h3; cases h3
  rw [hc] at h4; cases h4
  obtain ⟨oc, e⟩ := Option.isSome_iff_exists.mp hk
  have g := X _ _ e
  have ep : tabO K c = P := by
    obtain ⟨oc', us, f1, f2, f3, f4, f5, f6, f7, g1, g2, g3, g4, _⟩ := h5
    rw [g] at g1; cases g1
    unfold tabO
    rw [e]
    simp only [g3, g4]
  rw [ep]
  exact ⟨h6, h5⟩
end DL
namespace DL
open PySem PySem.Spec PyProof.Rows L2
/-- a def with a table of code objects -/
structure GenT [Tb] (mg : Str → Option Value) (base : Heap) (fd : FuncData) (c P : Addr) : Prop where
  hc : fd.code = .ref c
  tb : GxR.TabB base mg c P
  mem : P ∈ (Tb.Ts : List Addr)
end DL

set_option Elab.async false
set_option linter.all false
set_option maxRecDepth 100000
set_option maxHeartbeats 4000000
/-! quiet expressions: nothing changes but what is new -/
namespace DL
open PySem PySem.Spec PyProof.Rows L2
abbrev Kept := Addr → Obj → Prop
def KIn (B : Kept) (h : Heap) : Prop := ∀ b o, B b o → h.get? b = some o
theorem keeps_tr {s s1 s2 : Shared} (a : Keeps s s1) (b : Keeps s1 s2) : Keeps s s2 := by
  obtain ⟨h1, t1, rfl, k1⟩ := a
  obtain ⟨h2, t2, rfl, k2⟩ := b
  exact ⟨h2, t2, rfl, fun x o e => k2 x o (k1 x o e)⟩
theorem KIn.go {B : Kept} {s s1 : Shared} (k : KIn B s.heap) (a : Keeps s s1) : KIn B s1.heap := by
  obtain ⟨h1, t1, rfl, k1⟩ := a
  exact fun b o e => k1 b o (k b o e)
theorem keeps_ns {s s1 : Shared} {L : Addr} {m : Str → Option Value} (n : s.heap.Ns L m) (a : Keeps s s1) : s1.heap.Ns L m := by
  obtain ⟨h1, t1, rfl, k1⟩ := a
  exact n.keeps k1
/-- in such an environment e comes to a value with F, and nothing changes but what is new -/
def Qe (prog : Program) (w : World) (B : Kept) (D : Nat) (env : Env) (m : Str → Option Value) (e : Expr) (F : Value → Prop) : Prop :=
  ∀ (A : Around) (E : Value → Shared → Prop) (s : Shared), A.depth ≤ D → KIn B s.heap → s.heap.Ns env.locals m → wpAny (model prog w) A (eval e env) (fun y s1 => F y ∧ Keeps s s1) E s
structure QEnv (env : Env) : Prop where
  kind : env.scope.kind = .function
  gl : env.globals = mainGlobals
  bl : env.builtins = builtinsNs
/-- a call that is quiet -/
def QFn (prog : Program) (w : World) (B : Kept) (D : Nat) (f : Addr) (vs : List Value) (F : Value → Prop) : Prop :=
  ∀ (A : Around) (E : Value → Shared → Prop) (s : Shared), A.depth ≤ D → KIn B s.heap → wpAny (model prog w) A (call (.ref f) vs) (fun y s1 => F y ∧ Keeps s s1) E s
section
variable {prog : Program} {w : World} {B : Kept} {D : Nat} {env : Env} {m : Str → Option Value} {K : PySem.W.Frag} {mg : Str → Option Value} {base : Heap} {pos p p1 p2 : Pos} {a b : Expr} {rest : List Expr}
theorem qe_loc {x : Str} {v : Value} (q : QEnv env) (hl : env.kindOf x = some .local) (hv : m x = some v) (hd : (x == ("__debug__" : Str)) = false := by decide) : Qe prog w B D env m (.Name x pos) (· = v) :=
  fun A E s _ _ hn => wpAny_Name (wpAny_loadName_local q.kind hl hn hv ⟨rfl, GxR.keeps_refl s⟩) hd
theorem qe_mono {e : Expr} {F F' : Value → Prop} (h : Qe prog w B D env m e F) (k : ∀ v, F v → F' v) : Qe prog w B D env m e F' :=
  fun A E s d kb hn => wpAny_mono (h A E s d kb hn) (fun y s1 r => ⟨k y r.1, r.2⟩) fun _ _ z => z
theorem qe_one {op : BoolOp} {F : Value → Prop} (h : Qe prog w B D env m a F) : Qe prog w B D env m (.BoolOp op [a] pos) F :=
  fun A E s d kb hn => BoolOp_one (h A E s d kb hn)
theorem qe_and {x y : Bool} (h : Qe prog w B D env m a (· = .bool x)) (t : x = true → Qe prog w B D env m (.BoolOp .And (b :: rest) pos) (· = .bool y)) : Qe prog w B D env m (.BoolOp .And (a :: b :: rest) pos) (· = .bool (x && y)) :=
  fun A E s d kb hn => BoolOp_and (wpAny_mono (h A E s d kb hn) (fun v s1 r => by
    obtain ⟨rfl, k1⟩ := r
    refine wpAny_truthy_bool ?_
    cases x with
    | false => exact ⟨rfl, k1⟩
    | true => exact wpAny_mono (t rfl A E s1 d (kb.go k1) (keeps_ns hn k1)) (fun v s2 r => ⟨r.1, keeps_tr k1 r.2⟩) fun _ _ z => z) fun _ _ z => z)
theorem qe_not {x : Bool} (h : Qe prog w B D env m a (· = .bool x)) : Qe prog w B D env m (.UnaryOp .Not a pos) (· = .bool (!x)) :=
  fun A E s d kb hn => UnaryOp_ (wpAny_mono (h A E s d kb hn) (fun v s1 r => by
    obtain ⟨rfl, k1⟩ := r
    exact not_of (wpAny_truthy_bool ⟨rfl, k1⟩)) fun _ _ z => z)
theorem qe_glob {x : Str} {v : Value} (q : QEnv env) (M : L2.Mod K mg base) (hB : ∀ b o, base.get? b = some o → B b o) (hg : env.kindOf x = some .globalImplicit) (hm : mg x = some v) (hd : (x == ("__debug__" : Str)) = false := by decide) : Qe prog w B D env m (.Name x pos) (· = v) :=
  fun A E s _ kb _ => Calls.Name_function_global q.kind hg (Calls.loadGlobal_global (by rw [q.gl]; exact M.glob.keeps fun b o e => kb b o (hB b o e)) hm ⟨rfl, GxR.keeps_refl s⟩) hd
theorem qe_blt {x : Str} {v : Value} (q : QEnv env) (M : L2.Mod K mg base) (hB : ∀ b o, base.get? b = some o → B b o) (hg : env.kindOf x = some .globalImplicit) (hm : mg x = none) (hv : bootBuiltins x = some v) (hn : x ≠ "__name__" := by decide) (hd : (x == ("__debug__" : Str)) = false := by decide) : Qe prog w B D env m (.Name x pos) (· = v) :=
  fun A E s _ kb _ => by
    obtain ⟨mb, h1, h2⟩ := M.blt
    exact Calls.Name_function_global q.kind hg (Calls.loadGlobal_builtin (by rw [q.gl]; exact M.glob.keeps fun b o e => kb b o (hB b o e)) hm (by rw [q.bl]; exact h1.keeps fun b o e => kb b o (hB b o e)) ((h2 x hn).trans hv) ⟨rfl, GxR.keeps_refl s⟩) hd
/-- what kind of thing a value is -/
def Knd (B : Kept) (v : Value) (d : PyData) : Prop := match d with
  | .none => v = .none
  | .bool b => v = .bool b
  | .int i => ∃ t, v = .int i t
  | .str x => ∃ t, v = .str x t
  | .list _ => ∃ a o, v = .ref a ∧ B a o ∧ o.cls = .type "list"
  | .tuple _ => ∃ a o, v = .ref a ∧ B a o ∧ o.cls = .type "tuple"
  | .dict _ => ∃ a o, v = .ref a ∧ B a o ∧ o.cls = .type "dict"
theorem knd_kit {v : Value} {d : PyData} (k : Knd B v d) : ∃ P : Heap → Prop, PySem.W.KitX K v (.type (tyN d)) P ∧ (∀ h, KIn B h → P h) ∧ v ≠ .builtin "__main__.__loader__#opaque" := by
  cases d with
  | none => cases (show v = .none from k); exact ⟨_, PySem.W.kitx_none, fun _ _ => True.intro, fun z => nomatch z⟩
  | bool b => cases (show v = .bool b from k); exact ⟨_, PySem.W.kitx_bool, fun _ _ => True.intro, fun z => nomatch z⟩
  | int i => obtain ⟨t, q⟩ := (show ∃ t, v = .int i t from k); cases q; exact ⟨_, PySem.W.kitx_int, fun _ _ => True.intro, fun z => nomatch z⟩
  | str x => obtain ⟨t, q⟩ := (show ∃ t, v = .str x t from k); cases q; exact ⟨_, PySem.W.kitx_str, fun _ _ => True.intro, fun z => nomatch z⟩
  | list ds => obtain ⟨a, o, q, h1, h2⟩ := (show ∃ a o, v = .ref a ∧ B a o ∧ o.cls = .type "list" from k); cases q; exact ⟨_, PySem.W.kitx_list, fun h kb => ⟨o, kb a o h1, h2⟩, fun z => nomatch z⟩
  | tuple ds => obtain ⟨a, o, q, h1, h2⟩ := (show ∃ a o, v = .ref a ∧ B a o ∧ o.cls = .type "tuple" from k); cases q; exact ⟨_, PySem.W.kitx_tuple, fun h kb => ⟨o, kb a o h1, h2⟩, fun z => nomatch z⟩
  | dict ds => obtain ⟨a, o, q, h1, h2⟩ := (show ∃ a o, v = .ref a ∧ B a o ∧ o.cls = .type "dict" from k); cases q; exact ⟨_, PySem.W.kitx_dict, fun h kb => ⟨o, kb a o h1, h2⟩, fun z => nomatch z⟩
/-- isinstance(a, T) -/
theorem qe_isi {v : Value} {d : PyData} {T : String} {tx : Str} {r : Bool} (q : QEnv env) (M : L2.Mod K mg base) (hB : ∀ b o, base.get? b = some o → B b o) (h : Qe prog w B D env m a (· = v)) (k : Knd B v d) (hr : kitB (tyN d) T = some r)
    (hg : env.kindOf "isinstance" = some .globalImplicit) (hm : mg "isinstance" = none) (hv : bootBuiltins "isinstance" = some (.builtin "isinstance")) (hgt : env.kindOf tx = some .globalImplicit) (hmt : mg tx = none) (hvt : bootBuiltins tx = some (.type T))
    (hn : tx ≠ "__name__" := by decide) (hdb : (tx == ("__debug__" : Str)) = false := by decide)
    (h1 : starEach [a, .Name tx p2] env = (false, eval a env) :: starEach [.Name tx p2] env := by rfl) (h2 : starEach [.Name tx p2] env = (false, eval (.Name tx p2) env) :: starEach [] env := by rfl)
    (hpl : (backTo pos (starEach [.Name tx p2] env)).any (·.1) = false := by rfl) :
    Qe prog w B D env m (.Call (.Name "isinstance" p) [a, .Name tx p2] [] pos) (· = .bool r) := fun A E s dp kb hns => by
  obtain ⟨P, Z, hP, hx⟩ := knd_kit (K := K) k
  refine wpAny_Call_Name_kw (wpAny_mono (qe_blt q M hB hg hm hv (by decide) (by decide) A E s dp kb hns) (fun y s1 r1 => ?_) fun _ _ z => z)
  obtain ⟨rfl, k1⟩ := r1
  refine PyProof.Rows.callWith_builtin1 ?_ h1 hpl
  rw [h1, h2]
  show wpAny _ _ (spliced ((false, eval a env) :: (false, eval (.Name tx p2) env) :: [])) _ _ s1
  refine Calls.spliced_cons (wpAny_mono (h A E s1 dp (kb.go k1) (keeps_ns hns k1)) (fun y s2 r2 => ?_) fun _ _ z => z)
  obtain ⟨rfl, k2⟩ := r2
  have k12 := keeps_tr k1 k2
  refine Calls.spliced_cons (wpAny_mono (qe_blt q M hB hgt hmt hvt hn hdb A E s2 dp (kb.go k12) (keeps_ns hns k12)) (fun y s3 r3 => ?_) fun _ _ z => z)
  obtain ⟨rfl, k3⟩ := r3
  have k13 := keeps_tr k12 k3
  refine Calls.spliced_nil ?_
  have kb3 := kb.go k13
  exact PySem.W.kia_one Z (M.kin.keeps fun b o e => kb3 b o (hB b o e)) (hP _ kb3) (kit_ty hr) hx fun tk => ⟨rfl, keeps_tr k13 (GxR.keeps_tok s3 tk)⟩
/-- f(a), f a def that is quiet -/
theorem qe_call1 {x : Str} {f : Addr} {v : Value} {F : Value → Prop} (q : QEnv env) (M : L2.Mod K mg base) (hB : ∀ b o, base.get? b = some o → B b o) (h : Qe prog w B D env m a (· = v)) (hf : QFn prog w B D f [v] F)
    (hg : env.kindOf x = some .globalImplicit) (hm : mg x = some (.ref f)) (hk : PySem.W.keepIn K (.ref f) = true) (hdb : (x == ("__debug__" : Str)) = false := by decide)
    (h1 : starEach [a] env = (false, eval a env) :: starEach [] env := by rfl) (hpl : (backTo pos (starEach [] env)).any (·.1) = false := by rfl) :
    Qe prog w B D env m (.Call (.Name x p) [a] [] pos) F := fun A E s dp kb hns => by
  refine wpAny_Call_Name_kw (wpAny_mono (qe_glob q M hB hg hm hdb A E s dp kb hns) (fun y s1 r1 => ?_) fun _ _ z => z)
  obtain ⟨rfl, k1⟩ := r1
  refine PySem.W.callWith_K (h₀ := base) M.kin hk ?_ h1 hpl
  rw [h1]
  show wpAny _ _ (spliced ((false, eval a env) :: [])) _ _ s1
  refine Calls.spliced_cons (wpAny_mono (h A E s1 dp (kb.go k1) (keeps_ns hns k1)) (fun y s2 r2 => ?_) fun _ _ z => z)
  obtain ⟨rfl, k2⟩ := r2
  have k12 := keeps_tr k1 k2
  refine Calls.spliced_nil ⟨?_, ?_⟩
  · exact M.kin.keeps fun b o e => kb.go k12 b o (hB b o e)
  · exact wpAny_mono (hf A E s2 dp (kb.go k12)) (fun y s3 r3 => ⟨r3.1, keeps_tr k12 r3.2⟩) fun _ _ z => z
/-- a def of one row -/
theorem qfn_of {x qual : Str} {st : Stmt} {f : Addr} {fd : FuncData} {N ps : List Str} {e : Expr} {us : List Value} {F : Value → Prop} (Fn : Fun K x qual st f fd) (S : FnScope N ps (defScope st)) (hbind : Binds K fd ps []) (M : L2.Mod K mg base) (hB : ∀ b o, base.get? b = some o → B b o)
    (hu : us.length = ps.length) (hD : D < recursionLimit) (hbody : defBody st = [.Return (some e) pos])
    (h : ∀ (L : Addr) (cdv : Value), Qe prog w B (D + 1) (envOfC qual (defScope st) L f cdv) (bindL (envOfC qual (defScope st) L f cdv).kindOf (ps.zip us) fun _ => none) e F) : QFn prog w B D f us F := fun A E s dp kb => by
  obtain ⟨oc, od, kV, doc, pm, an, cdv, ct, osl, rfl, lk, hcd⟩ := Fn.ex
  have inK : K.In s.heap := M.kin.keeps fun b o e => kb b o (hB b o e)
  have lim : s.heap.NoLimit := M.nolimit.keeps fun b o e => kb b o (hB b o e)
  have kinds : ∀ y ∈ ps.zip us, (defScope st).names.lookup y.1 = some .local ∨ ((defScope st).names.lookup y.1 = some .cell ∧ ((cellsFrom (s.heap.objs.size + 1) (defScope st).names []).lookup y.1).isSome = true) := by
    rintro ⟨n, v⟩ hy
    cases S.par n (List.of_mem_zip hy).1 with
    | inl q => exact .inl q
    | inr q => exact .inr ⟨q, PySem.W.cellsFrom_some _ _ _ (.inl q)⟩
  refine wpAny_call ?_
  refine codeAny_call_function (by omega) (inK _ _ lk) rfl S.co S.gen rfl (PySem.W.codeRec_of inK hcd) ?_
  have bt := hbind s us inK (by rw [List.append_nil]; exact hu)
  rw [List.append_nil] at bt
  refine bt _ _ _ _ ?_
  refine wpAny_newFunctionEnv_cells S.kind kinds fun env he s1 x => ?_
  subst he
  refine ⟨lim.keeps x.toInCall.keep, codeAny_func ?_⟩
  show wpAny _ _ (execs (defBody st) _) _ _ s1
  rw [hbody]
  have ks : Keeps s s1 := by
    obtain ⟨h', tk, e1, e2⟩ := x.done
    exact ⟨h', tk, e1, e2⟩
  refine wpAny_execs_cons (wpAny_Return_some (wpAny_mono (h s.heap.objs.size cdv _ _ s1 (by show A.depth + 1 ≤ D + 1; omega) (kb.go ks) x.toInCall.ns) (fun y s2 r => ⟨r.1, keeps_tr ks r.2⟩) fun _ _ z => z))
end
end DL

set_option Elab.async false
set_option linter.all false
set_option maxRecDepth 100000
set_option maxHeartbeats 4000000
/-! all and any of a generator expression over a tuple -/
namespace DL
open PySem PySem.Spec PyProof.Rows L2
variable [Tb]
/-- a value's kind, where it is data -/
theorem knd_of {X : Cx} {pins : List (Addr × Obj)} {σ : L2.St} {H : Hp} {s : Shared} {x : V} {u : Value} {d : PyData} {B : Kept} (I : Inv X pins σ H s) (rx : RelV x u) (h : Dx X.K H x d)
    (hB : ∀ b o, s.heap.get? b = some o → (o.cls = .type "list" ∨ o.cls = .type "tuple" ∨ o.cls = .type "dict") → B b o) : Knd B u d := by
  cases h with
  | non => exact rx
  | bl b => exact rx
  | int i => exact rx
  | str y => exact rx
  | @lst a xs ds ea h2 =>
    cases (show u = Value.ref a from rx)
    obtain ⟨_, _, n, _, e⟩ := (show ObjOk X.prog X.w H s.heap a (.lst xs) from I.hok a _ ea)
    exact ⟨a, _, rfl, hB a _ e (.inl rfl), rfl⟩
  | @tup a xs ds h1 h2 =>
    cases (show u = Value.ref a from rx)
    obtain ⟨its, o, n, _, e, hc, _⟩ := L2.sqT_at I.hok I.kIn h1
    exact ⟨a, o, rfl, hB a o e (.inr (.inl hc)), hc⟩
  | @dct a o vs es h1 h2 h3 =>
    cases (show u = Value.ref a from rx)
    obtain ⟨kvs, rfl, _⟩ := h2
    obtain ⟨_, _, vs, _, ob, es, ep, e1, e2, _⟩ := (show ObjOk X.prog X.w H s.heap a (.dK kvs) from I.hok a _ h1)
    exact ⟨a, ob, rfl, hB a ob e1 (.inr (.inr e2.1)), e2.1⟩
/-- at place i the test's truth -/
def trD (pb : PyData → Bool) (ds : List PyData) (i : Nat) : Bool := match ds[i]? with
  | some d => pb d
  | none => false
theorem all_trD (pb : PyData → Bool) (ds : List PyData) : (List.range ds.length).all (trD pb ds) = ds.all pb := by
  rw [Bool.eq_iff_iff, List.all_eq_true, List.all_eq_true]
  constructor
  · intro h d m
    obtain ⟨i, hi, rfl⟩ := List.getElem_of_mem m
    have := h i (List.mem_range.mpr hi)
    unfold trD at this
    rw [List.getElem?_eq_getElem hi] at this
    exact this
  · intro h i hi
    have hi := List.mem_range.mp hi
    unfold trD
    rw [List.getElem?_eq_getElem hi]
    exact h _ (List.getElem_mem hi)
theorem any_trD (pb : PyData → Bool) (ds : List PyData) : (List.range ds.length).any (trD pb ds) = ds.any pb := by
  rw [Bool.eq_iff_iff, List.any_eq_true, List.any_eq_true]
  constructor
  · rintro ⟨i, hi, h⟩
    have hi := List.mem_range.mp hi
    unfold trD at h
    rw [List.getElem?_eq_getElem hi] at h
    exact ⟨_, List.getElem_mem hi, h⟩
  · rintro ⟨d, m, h⟩
    obtain ⟨i, hi, rfl⟩ := List.getElem_of_mem m
    refine ⟨i, List.mem_range.mpr hi, ?_⟩
    unfold trD
    rw [List.getElem?_eq_getElem hi]
    exact h
/-- the test of one thing: quiet, where all that stood is kept -/
def EltD (X : Cx) (scope : Scope) (x : Str) (elt : Expr) (ok : PyData → Prop) (pb : PyData → Bool) : Prop :=
  ∀ (B : Kept) (env : Env) (m : Str → Option Value) (d : PyData) (u : Value), L2.Mod X.K X.mg X.base → (∀ b o, X.base.get? b = some o → B b o) → QEnv env → env.scope = scope → m x = some u → Knd B u d → ok d → Qe X.prog X.w B (X.A.depth + 1) env m elt (· = .bool (pb d))
/-- the generator at g, about to be walked, in the state s5; H1 was held ahead of it -/
def RdyD (X : Cx) (pins : List (Addr × Obj)) (σ : L2.St) (H1 : Hp) (P : Addr) (ds : List PyData) (pb : PyData → Bool) (g : Addr) (s5 : Shared) : Prop :=
  ∃ (fp wr : List Addr) (G : Array GenState → Array GenState → Prop) (F : Nat → Value → Prop) (St : Nat → Shared → Prop),
    WalksS X.prog X.w X.A.in1 g fp wr G ds.length F St ∧ St 0 s5 ∧ TruthOf X.prog X.w X.A.in1 F (trD pb ds) ∧ ∀ s', Moved wr G s5 s' → ∃ H2, GxR.Tabbed P H1 H2 ∧ Inv X pins σ H2 s'
section
variable {X : Cx} {pins : List (Addr × Obj)} {σ : L2.St} {H : Hp} {s : Shared}
theorem gen_tup {c P : Addr} {elt iter : Expr} {x : Str} {px gpos : Pos} {scope : Scope} {ok : PyData → Prop} {pb : PyData → Bool} {te : TE} {k : Nat} {Q' : Value → Shared → Prop} {R : List PyData → Hp → Prop}
    (hr : Room k X.A) (TB : GxR.TabB X.base X.mg c P) (hcode : X.env.code = .ref c) (S : GxR.GenS X.env scope x) (hi : PE X iter te) (hel : EltD X scope x elt ok pb)
    (hs : ∀ v, genFold iter X.env v = pure v) (I : Inv X pins σ H s)
    (h : te σ H fun v H1 => ∃ (a : Addr) (xs : List V) (ds : List PyData) (O : List Addr), v = .ref a ∧ SqT X.K H1 a xs ∧ DxAll X.K (hid O H1) xs ds ∧ (∀ d ∈ ds, ok d) ∧ GxR.TabG H1 P ∧ R ds H1)
    (hQ : ∀ ds H1 g s5, R ds H1 → RdyD X pins σ H1 P ds pb g s5 → Q' (.ref g) s5) :
    wpAny (model X.prog X.w) X.A (eval (.GeneratorExp elt [⟨.Name x px, iter, [], 0⟩] scope gpos) X.env) Q' X.xe s := by
  refine wpAny_GeneratorExp_walksQD hr.hd S.co (closure_ok S.free) S.cell S.dot S.loc S.kind (by have := hr.dp; omega) ?_ hs
  refine thn (hi.run pins s σ H _ I h) ?_
  rintro xv s1 ⟨v, H1, I1, r1, a, xs, ds, O, rfl, hT, hD, hok, ⟨ps, hP, ht⟩, q1⟩
  cases (show xv = Value.ref a from r1)
  obtain ⟨its, ot, nt, rv, eo, ec, ed⟩ := L2.sqT_at I1.hok I1.kIn hT
  have tup1 : s1.heap.IsTuple a its.toArray := ⟨ot, eo, ec, nt, ed⟩
  have len : its.length = ds.length := by rw [← rv.length]; exact hD.len
  refine wpAny_pyIter_tuple tup1 ?_
  generalize eit : ({ cls := .type "tuple_iterator", data := .fields #[.ref a, .int 0 0] } : Obj) = it
  have atP : s1.heap.get? P = some { cls := .none, data := .fields ps } := I1.hok P _ hP
  have ltP : P < s1.heap.objs.size := Heap.lt_size atP
  have lta : a < s1.heap.objs.size := Heap.lt_size eo
  have neP : ∀ b o, s1.heap.get? b = some o → (o.cls = .type "list" ∨ o.cls = .type "tuple" ∨ o.cls = .type "dict") → b ≠ P := fun b o e hc z => by
    rw [z, atP] at e
    cases e
    rcases hc with z | z | z <;> cases z
  have up : ∀ b o, s1.heap.get? b = some o → (s1.heap.push it).get? b = some o := fun b o e => Heap.get?_push_of_some _ e
  have iter0 : (s1.heap.push it).IsTupleIter s1.heap.objs.size a 0 := by
    subst eit
    exact ⟨_, Heap.get?_push_size _ rfl, rfl, rfl⟩
  have atP2 := up _ _ atP
  have cd : PySem.W.CodeHd (s1.heap.push it) c P := TB.code.keeps fun b u e => up b u (I1.bk b u e)
  have lim2 : (s1.heap.push it).NoLimit := I1.nolimit.push it
  -- behind the making of the code object, whether it was there or not
  have go : ∀ (code : Value) (h3 : Heap) (tk : Nat) (ps' : Array Value), Heap.ExtBut P (s1.heap.push it) h3 → (s1.heap.push it).objs.size ≤ h3.objs.size → h3.get? P = some { cls := .none, data := .fields ps' } → (∃ more, ps' = ps ++ more) → TriplesOk ps'.toList →
      wpAny (model X.prog X.w) X.A (builtinsFor X.env.globals X.env.builtins) (fun bi s₄ =>
        ∃ Ia fp wr n₀ Pf St₀ pz F, Value.ref s1.heap.objs.size = .ref Ia ∧ (∀ A' : Around, A'.handled = none → Walks X.prog X.w A' Ia fp wr n₀ Pf St₀) ∧ St₀ 0 s₄.heap ∧ (∀ b ∈ fp, b < s₄.heap.objs.size) ∧ s₄.heap.NoLimit ∧ cStatics ∉ wr ∧
          (∀ href : Heap, (∀ b o, s₄.heap.get? b = some o → href.get? b = some o) →
            QuietGenD X.prog X.w (genEnv scope (cloFrom X.env.cells scope.names []) s₄.heap.objs.size code bi X.env) x [] elt (List.range s₄.heap.objs.size) wr Pf pz F href (X.A.depth + 1) (X.A.units + 8)) ∧
          (∀ a h₅ tk gs, gs.bare = true → s₄.heap.objs.size < a → h₅.objs.size = a + 1 → (∀ b o, s₄.heap.get? b = some o → h₅.get? b = some o) →
            WalksS X.prog X.w X.A.in4 a (a :: s₄.heap.objs.size :: List.range s₄.heap.objs.size) (s₄.heap.objs.size :: wr) (GenOnlyQ s₄.gens.size) (passing pz n₀ 0).length
              (fun j y => ∃ i, (passing pz n₀ 0)[j]? = some i ∧ F i y) (GenAt X.prog X.w X.A.in4 a s₄.gens.size s₄.heap.objs.size (List.range s₄.heap.objs.size) wr pz n₀ F) →
            GenAt X.prog X.w X.A.in4 a s₄.gens.size s₄.heap.objs.size (List.range s₄.heap.objs.size) wr pz n₀ F 0 { s₄ with gens := s₄.gens.push gs, toks := tk, heap := h₅ } →
            Q' (.ref a) { s₄ with gens := s₄.gens.push gs, toks := tk, heap := h₅ })) X.xe { s1 with heap := h3, toks := tk } := by
    rintro code h3 tk _ grown big atP3 ⟨more, rfl⟩ ht3
    obtain ⟨bm, ob, e1, e2, e3, e4, e5, e6, e7, e8⟩ := TB.bm
    have lts : cStatics < s1.heap.objs.size := let ⟨_, hns, _⟩ := I1.nolimit; hns.lt
    have nesP : cStatics ≠ P := fun z => by
      obtain ⟨_, ⟨o', es, ep, ho, hd, _⟩, _⟩ := I1.nolimit
      rw [z, atP] at ho
      cases ho
      cases hd
    have size2 : (s1.heap.push it).objs.size = s1.heap.objs.size + 1 := Heap.size_push ..
    have keep : ∀ b u, b ≠ P → s1.heap.get? b = some u → h3.get? b = some u := fun b u n e => grown b u n (up b u e)
    have iter3 : h3.IsTupleIter s1.heap.objs.size a 0 := iter0.at fun u e => grown _ u (Nat.ne_of_gt ltP) e
    have tup3 : h3.IsTuple a its.toArray := ⟨ot, keep _ _ (neP a ot eo (.inr (.inl ec))) eo, ec, nt, ed⟩
    refine wpAny_builtinsFor (m := X.mg) (by rw [I1.ok.glob]; exact ((I1.mod.glob.keeps I1.bk).push it).extBut grown TB.gP) e1 e2 (keep _ _ e4 (I1.bk _ _ e5)) e6 e7 e8 ?_
    refine ⟨_, [s1.heap.objs.size, a], [s1.heap.objs.size], its.toArray.size, (fun i v => its.toArray[i]? = some v), (fun i h => h.IsTupleIter s1.heap.objs.size a i ∧ h.IsTuple a its.toArray), (fun _ => true), (fun i y => ∃ d, ds[i]? = some d ∧ y = .bool (pb d)), rfl,
      fun A' hA => Walks.tuple hA _ _ (Nat.ne_of_lt lta) _, ⟨iter3, tup3⟩, fun b m => ?_, lim2.extBut grown nesP, fun m => ?_, fun href sub => ⟨?_, ?_⟩, ?_⟩
    · have big1 : s1.heap.objs.size < h3.objs.size := Nat.lt_of_lt_of_le (by rw [size2]; exact Nat.lt_succ_self _) big
      show b < h3.objs.size
      rcases List.mem_cons.mp m with z | m
      · rw [z]; exact big1
      · rw [List.mem_singleton.mp m]; exact Nat.lt_trans lta big1
    · exact Nat.ne_of_lt lts (List.mem_singleton.mp m)
    · intro A' E' i v s₂ m₂ _ _ _ _ _ _ _
      simp only [List.forIn_nil]
      exact wpAny_pure ⟨rfl, GxR.keeps_refl _⟩
    · intro A' E' i v s₂ m₂ _ dp _ hv _ hn hm hk
      have hv2 : its[i]? = some v := by simpa using hv
      have il : i < its.length := (List.getElem?_eq_some_iff.mp hv2).1
      obtain ⟨y, hy⟩ : ∃ y, xs[i]? = some y := ⟨xs[i]'(by rw [rv.length]; exact il), List.getElem?_eq_getElem _⟩
      obtain ⟨u, hu, ru⟩ := rv.get hy
      rw [hv2] at hu
      cases hu
      obtain ⟨d, hd, dx⟩ := hD.get' hy
      -- all that stood ahead of it but for the table and the iterator is kept
      let B : Kept := fun b o => b ≠ P ∧ s1.heap.get? b = some o
      have kb : KIn B s₂.heap := fun b o e => hk b (List.mem_range.mpr (by
          have l := Heap.lt_size e.2
          have big1 : s1.heap.objs.size < h3.objs.size := Nat.lt_of_lt_of_le (by rw [size2]; exact Nat.lt_succ_self _) big
          exact Nat.lt_trans l big1)) (fun m => by
          have l := Heap.lt_size e.2
          rw [List.mem_singleton.mp m] at l
          exact Nat.lt_irrefl _ l) o (sub b o (keep b o e.1 e.2))
      have inB : ∀ b o, X.base.get? b = some o → B b o := fun b o e => ⟨fun z => (by
          have := (I1.bs b o e).2
          rw [z, hP] at this
          cases this), I1.bk b o e⟩
      have kd : Knd B v d := knd_of I1 ru (Dx.same hid_sub d y dx) fun b o e hc => ⟨neP b o e hc, e⟩
      have qv : QEnv (genEnv scope (cloFrom X.env.cells scope.names []) h3.objs.size code builtinsNs X.env) := ⟨S.kind, I1.ok.glob, rfl⟩
      exact wpAny_mono (hel B _ m₂ d v I1.mod inB qv rfl hm kd (hok d (List.mem_of_getElem? hd)) A' E' s₂ dp kb hn) (fun y s3 r => ⟨⟨d, hd, r.1⟩, r.2⟩) fun _ _ e => e
    · intro g h5 tk5 gs bare ag sz5 k5 W5 at0
      simp only [GxR.passing_true, List.length_range] at W5
      have n5 : its.toArray.size = ds.length := by rw [List.size_toArray, len]
      rw [n5] at W5 at0
      refine hQ ds H1 g _ q1 ⟨_, _, _, _, _, W5.in4_1, at0, ?_, fun s' hm => ?_⟩
      · rintro j y sj Qj Ej ⟨i, hij, d, hd, rfl⟩ hQj
        obtain ⟨hj, ej⟩ := List.getElem?_eq_some_iff.mp hij
        rw [List.getElem_range] at ej
        subst ej
        refine wpAny_truthy_bool ?_
        have e : trD pb ds j = pb d := by unfold trD; rw [hd]
        rw [← e]
        exact hQj
      · have apart : ∀ b u, s1.heap.get? b = some u → b ∉ h3.objs.size :: [s1.heap.objs.size] := fun b u e m => by
          have l := Heap.lt_size e
          rcases List.mem_cons.mp m with z | m
          · rw [z] at l
            have : (h3.objs.size : Nat) < s1.heap.objs.size := l
            omega
          · rw [List.mem_singleton.mp m] at l
            exact Nat.lt_irrefl _ l
        have J := GxR.inv_tab (more := more) (h' := s'.heap) (g' := s'.gens) (d' := s'.drawn) (t' := s'.toks) I1 hP (fun b u n e => hm.heap b u (apart b u e) (k5 b u (keep b u n e)))
          (hm.heap P _ (apart P _ atP) (k5 P _ atP3)) (AllBare.movedS (I1.bare.push bare) hm)
        rw [GxR.sh_eta s1 s' hm.os] at J
        exact ⟨upd H1 P (.tbl (ps ++ more)), ⟨⟨ps ++ more, upd_same, ht3⟩, fun b n => upd_ne n⟩, J⟩
  refine ⟨lim2, ?_⟩
  cases hf : codeAmong gpos ps.toList with
  | some cv => exact wpAny_genexprCode_hit hcode (cd.code atP2 ht) hf (go cv _ s1.toks ps (Heap.ExtBut.refl _ _) (Nat.le_refl _) atP2 ⟨#[], by simp⟩ ht)
  | none =>
    refine wpAny_genexprCodeX hcode (cd.code atP2 ht) (cd.tab atP2) hf ?_
    intro c' h' tk hx hge hlt hco' _ htab' _
    obtain ⟨o1, vs, f1, tf, fl, tg, inF, tx, tt, op, _, _, _, _, _, _, _, _, _, htr, _⟩ := hco'
    exact go _ h' tk _ hx (Nat.le_trans hge (Nat.le_of_lt hlt)) htab'.2 ⟨_, rfl⟩ htr
def tAllD (K : PySem.W.Frag) (P : Addr) (ok : PyData → Prop) (pb : PyData → Bool) (te : TE) : TE := fun σ H Q => te σ H fun v H1 => ∃ (a : Addr) (xs : List V) (ds : List PyData) (O : List Addr), v = .ref a ∧ SqT K H1 a xs ∧ DxAll K (hid O H1) xs ds ∧ (∀ d ∈ ds, ok d) ∧ GxR.TabG H1 P ∧
  ∀ H2, GxR.Tabbed P H1 H2 → Q (.bl (ds.all pb)) H2
def tAnyD (K : PySem.W.Frag) (P : Addr) (ok : PyData → Prop) (pb : PyData → Bool) (te : TE) : TE := fun σ H Q => te σ H fun v H1 => ∃ (a : Addr) (xs : List V) (ds : List PyData) (O : List Addr), v = .ref a ∧ SqT K H1 a xs ∧ DxAll K (hid O H1) xs ds ∧ (∀ d ∈ ds, ok d) ∧ GxR.TabG H1 P ∧
  ∀ H2, GxR.Tabbed P H1 H2 → Q (.bl (ds.any pb)) H2
theorem pe_allD {c P : Addr} {elt iter : Expr} {x : Str} {px p pos gpos : Pos} {scope : Scope} {ok : PyData → Prop} {pb : PyData → Bool} {te : TE} {k : Nat}
    (hr : Room k X.A) (hg : Gl X "all") (hm : X.mg "all" = none) (hb : bootBuiltins "all" = some (.builtin "all")) (TB : GxR.TabB X.base X.mg c P) (hcode : X.env.code = .ref c) (S : GxR.GenS X.env scope x) (hi : PE X iter te) (hel : EltD X scope x elt ok pb)
    (hs : ∀ v, genFold iter X.env v = pure v)
    (he : starEach [.GeneratorExp elt [⟨.Name x px, iter, [], 0⟩] scope gpos] X.env = (false, eval (.GeneratorExp elt [⟨.Name x px, iter, [], 0⟩] scope gpos) X.env) :: starEach [] X.env := by rfl) :
    PE X (.Call (.Name "all" p) [.GeneratorExp elt [⟨.Name x px, iter, [], 0⟩] scope gpos] [] pos) (tAllD X.K P ok pb te) := by
  constructor
  intro pins s σ H Q I h
  refine wpAny_Call_Name_kw (ld_blt I hg hm hb ?_)
  refine PyProof.Rows.callWith_builtin1 ?_ he (by rfl)
  rw [he]
  show wpAny _ _ (spliced ((false, eval (.GeneratorExp elt [⟨.Name x px, iter, [], 0⟩] scope gpos) X.env) :: backTo pos (starEach [] X.env))) _ _ s
  refine Calls.spliced_cons (gen_tup (R := fun ds H1 => ∀ H2, GxR.Tabbed P H1 H2 → Q (.bl (ds.all pb)) H2) hr TB hcode S hi hel hs I h ?_)
  rintro ds H1 g s5 hR ⟨fp, wr, G, F, St, W, hst, htr, hI⟩
  refine Calls.spliced_nil (call_all_walkS (W.self 0 _ _ _ hst ⟨g, fp, wr, G, _, F, St, _, rfl, W, hst, htr, fun s' hmv => ?_⟩))
  obtain ⟨H2, hT, J⟩ := hI s' hmv
  rw [all_trD]
  exact ⟨.bl _, H2, J, rfl, hR H2 hT⟩
theorem pe_anyD {c P : Addr} {elt iter : Expr} {x : Str} {px p pos gpos : Pos} {scope : Scope} {ok : PyData → Prop} {pb : PyData → Bool} {te : TE} {k : Nat}
    (hr : Room k X.A) (hg : Gl X "any") (hm : X.mg "any" = none) (hb : bootBuiltins "any" = some (.builtin "any")) (TB : GxR.TabB X.base X.mg c P) (hcode : X.env.code = .ref c) (S : GxR.GenS X.env scope x) (hi : PE X iter te) (hel : EltD X scope x elt ok pb)
    (hs : ∀ v, genFold iter X.env v = pure v)
    (he : starEach [.GeneratorExp elt [⟨.Name x px, iter, [], 0⟩] scope gpos] X.env = (false, eval (.GeneratorExp elt [⟨.Name x px, iter, [], 0⟩] scope gpos) X.env) :: starEach [] X.env := by rfl) :
    PE X (.Call (.Name "any" p) [.GeneratorExp elt [⟨.Name x px, iter, [], 0⟩] scope gpos] [] pos) (tAnyD X.K P ok pb te) := by
  constructor
  intro pins s σ H Q I h
  refine wpAny_Call_Name_kw (ld_blt I hg hm hb ?_)
  refine PyProof.Rows.callWith_builtin1 ?_ he (by rfl)
  rw [he]
  show wpAny _ _ (spliced ((false, eval (.GeneratorExp elt [⟨.Name x px, iter, [], 0⟩] scope gpos) X.env) :: backTo pos (starEach [] X.env))) _ _ s
  refine Calls.spliced_cons (gen_tup (R := fun ds H1 => ∀ H2, GxR.Tabbed P H1 H2 → Q (.bl (ds.any pb)) H2) hr TB hcode S hi hel hs I h ?_)
  rintro ds H1 g s5 hR ⟨fp, wr, G, F, St, W, hst, htr, hI⟩
  refine Calls.spliced_nil (call_any_walkS (W.self 0 _ _ _ hst ⟨g, fp, wr, G, _, F, St, _, rfl, W, hst, htr, fun s' hmv => ?_⟩))
  obtain ⟨H2, hT, J⟩ := hI s' hmv
  rw [any_trD]
  exact ⟨.bl _, H2, J, rfl, hR H2 hT⟩
end
end DL

set_option Elab.async false
set_option linter.all false
set_option maxRecDepth 100000
set_option maxHeartbeats 4000000
/-! all and any of a generator expression, over data -/
namespace DL
open PySem PySem.Spec PyProof.Rows L2
variable [Tb]
def genOk (scope : Scope) (x : Str) : Bool := (match scope.kind with | .function => true | _ => false) && (!scope.isCoroutine && (scope.names.all (fun y => match y.2 with | .cell => false | .free => false | _ => true) &&
  ((match scope.names.lookup (".0" : Str) with | some .local => true | _ => false) && (match scope.names.lookup x with | some .local => true | _ => false))))
theorem gens_of {env : Env} {scope : Scope} {x : Str} (h : genOk scope x = true) : GxR.GenS env scope x := by
  unfold genOk at h
  simp only [Bool.and_eq_true, Bool.not_eq_true', List.all_eq_true] at h
  obtain ⟨h1, h2, h3, h4, h5⟩ := h
  refine ⟨?_, h2, fun y m e => ?_, ?_, ?_, fun y m e => ?_⟩
  · split at h1
    · assumption
    · cases h1
  · have := h3 y m
    rw [e] at this
    cases this
  · split at h4
    · assumption
    · cases h4
  · split at h5
    · assumption
    · cases h5
  · have := h3 y m
    rw [e] at this
    cases this
theorem SrcOk.sub {H : Hp} {S : List Addr} (h : SrcOk H S) : ∀ P ∈ (Tb.Ts : List Addr), P ∈ S := fun P m => by
  rcases h.1 with e | ⟨a, c, e, _⟩
  · rw [e]; exact m
  · rw [e]; exact List.mem_cons_of_mem _ (List.mem_cons_of_mem _ m)
theorem ext_tab {S : List Addr} {H H' : Hp} {P : Addr} (so : SrcOk H S) (m : P ∈ (Tb.Ts : List Addr)) (h : GxR.Tabbed P H H') : Ext S H H' := by
  have mS := so.sub P m
  obtain ⟨ps, eP, _⟩ := so.2 P m
  have same : ∀ b o, H b = some o → (∀ q, o ≠ .tbl q) → H' b = some o := fun b o e n => by
    rw [h.2 b (fun z => by rw [z, eP] at e; exact n _ (Option.some.inj e).symm)]
    exact e
  refine ⟨fun b o n e => by rw [h.2 b (fun z => n (by rw [z]; exact mS))]; exact e, fun _ => ⟨?_, fun Q mQ => ?_⟩⟩
  · rcases so.1 with e | ⟨a, c, e, cs, l, mm, t, h1, h2, h3⟩
    · exact .inl e
    · exact .inr ⟨a, c, e, cs, l, mm, t, same _ _ h1 (fun q z => by cases z), same _ _ h2 (fun q z => by cases z), h3⟩
  · by_cases z : Q = P
    · rw [z]; exact h.1
    · obtain ⟨qs, e, r⟩ := so.2 Q mQ
      exact ⟨qs, by rw [h.2 Q z]; exact e, r⟩
section
variable {X : Cx} {elt iter : Expr} {x : Str} {px p pos gpos : Pos} {scope : Scope} {ok : PyData → Prop} {pb : PyData → Bool} {fd : FuncData} {c P : Addr} {k : Nat} {w : WD}
def wAll (ok : PyData → Prop) (f : List PyData → Bool) (w : WD) : WR := fun sd Q => w sd fun d => match d with
  | .tuple ds => (∀ d ∈ ds, ok d) ∧ Q (.va (.bool (f ds)))
  | _ => False
theorem wAll_mo {ok : PyData → Prop} {f : List PyData → Bool} (h : Ev .sh X iter w) : ∀ sd (Q Q' : RV → Prop), (∀ r, Q r → Q' r) → wAll ok f w sd Q → wAll ok f w sd Q' := fun sd Q Q' k q => h.mo _ _ _ (fun d z => by
  cases d with
  | tuple ds => exact ⟨z.1, k _ z.2⟩
  | _ => exact z.elim) q
theorem wAll_run {f : List PyData → Bool} (h : Ev .sh X iter w) (m : P ∈ (Tb.Ts : List Addr)) {σ : L2.St} {H : Hp} {Q : VK} (q : tR X.K (wAll ok f w) σ H Q) :
    tM .sh X.K w σ H fun v H1 => ∃ (a : Addr) (xs : List V) (ds : List PyData) (O : List Addr), v = .ref a ∧ SqT X.K H1 a xs ∧ DxAll X.K (hid O H1) xs ds ∧ (∀ d ∈ ds, ok d) ∧ GxR.TabG H1 P ∧ ∀ H2, GxR.Tabbed P H1 H2 → Q (.bl (f ds)) H2 := by
  obtain ⟨c, sd, os, hk, r, q⟩ := q
  refine ⟨c, sd, os, hk, r, h.mo _ _ _ (fun d k v H1 x1 dm => ?_) q⟩
  cases d with
  | tuple ds =>
    obtain ⟨a, us, rfl, h1, h2⟩ := shTup dm
    have r1 := r.grow x1
    exact ⟨a, us, ds, OO c os, rfl, SqT.same hid_sub h1, h2, k.1, r1.srcNow.2 P m, fun H2 ht => k.2 _ H2 (x1.trans (ext_tab r1.srcNow m ht)) (.bl _)⟩
  | _ => exact k.elim
theorem evr_allG (G : GenT X.mg X.base fd c P) (hcode : X.env.code = fd.code) (hr : RmG k X.A) (hm : X.mg "all" = none) (hb : bootBuiltins "all" = some (.builtin "all")) (hgo : genOk scope x = true) (h : Ev .sh X iter w) (hel : EltD X scope x elt ok pb)
    (hg : Gl X "all" := by rfl) (hs : ∀ v, genFold iter X.env v = pure v := by intro _; rfl)
    (he : starEach [.GeneratorExp elt [⟨.Name x px, iter, [], 0⟩] scope gpos] X.env = (false, eval (.GeneratorExp elt [⟨.Name x px, iter, [], 0⟩] scope gpos) X.env) :: starEach [] X.env := by rfl) :
    EvR X (.Call (.Name "all" p) [.GeneratorExp elt [⟨.Name x px, iter, [], 0⟩] scope gpos] [] pos) (wAll ok (fun ds => ds.all pb) w) where
  pe := PE.weak (pe_allD hr.rm hg hm hb G.tb (hcode.trans G.hc) (gens_of hgo) h.pe hel hs he) fun σ H Q q => wAll_run h G.mem q
  mo := wAll_mo h
theorem evr_anyG (G : GenT X.mg X.base fd c P) (hcode : X.env.code = fd.code) (hr : RmG k X.A) (hm : X.mg "any" = none) (hb : bootBuiltins "any" = some (.builtin "any")) (hgo : genOk scope x = true) (h : Ev .sh X iter w) (hel : EltD X scope x elt ok pb)
    (hg : Gl X "any" := by rfl) (hs : ∀ v, genFold iter X.env v = pure v := by intro _; rfl)
    (he : starEach [.GeneratorExp elt [⟨.Name x px, iter, [], 0⟩] scope gpos] X.env = (false, eval (.GeneratorExp elt [⟨.Name x px, iter, [], 0⟩] scope gpos) X.env) :: starEach [] X.env := by rfl) :
    EvR X (.Call (.Name "any" p) [.GeneratorExp elt [⟨.Name x px, iter, [], 0⟩] scope gpos] [] pos) (wAll ok (fun ds => ds.any pb) w) where
  pe := PE.weak (pe_anyD hr.rm hg hm hb G.tb (hcode.trans G.hc) (gens_of hgo) h.pe hel hs he) fun σ H Q q => wAll_run h G.mem q
  mo := wAll_mo h
/-- the element f(x) -/
theorem elt_call1 {f : Addr} {fd : FuncData} {y : Str} {ps : List Str} {p1 p2 : Pos} (C : Cal X.K X.mg y f fd ps)
    (hq : ∀ (B : Kept) (D : Nat) (d : PyData) (u : Value), L2.Mod X.K X.mg X.base → (∀ b o, X.base.get? b = some o → B b o) → D < recursionLimit → Knd B u d → ok d → QFn X.prog X.w B D f [u] (· = .bool (pb d)))
    (hr : RmG (k + 1) X.A) (hx : scope.names.lookup x = some .local) (hy : scope.names.lookup y = some .globalImplicit) (hdx : (x == ("__debug__" : Str)) = false := by decide) (hdy : (y == ("__debug__" : Str)) = false := by decide) :
    EltD X scope x (.Call (.Name y p) [.Name x p1] [] p2) ok pb := fun B env m d u M hB qv hsc hm kd hok => by
  have hD : X.A.depth + 1 < recursionLimit := by have := hr.rm.dp; omega
  exact qe_call1 qv M hB (qe_loc qv (by show env.scope.names.lookup x = _; rw [hsc]; exact hx) hm hdx) (hq B _ d u M hB hD kd hok) (by show env.scope.names.lookup y = _; rw [hsc]; exact hy) C.hm C.hk hdy
end
end DL

set_option Elab.async false
set_option linter.all false
set_option maxRecDepth 100000
set_option maxHeartbeats 4000000
/-! <<, bit_length, loops over zip and over ranges with a step -/
namespace DL
open PySem PySem.Spec PyProof.Rows L2
variable [Tb]
section
variable {X : Cx} {e a b c0 tg iter : Expr} {body : List Stmt} {pos p apos tpos : Pos} {w : WD} {wl : WL} {g : WG} {wb : WS} {is : List Nat} {elts : List Expr} {kk : Nat}
theorem od_shl : OpD X (binaryOp .LShift) .sh .sh (rdInt CShl fun i j => .int (i * 2 ^ j.toNat)) := opd_int op_shlW fun _ _ _ _ => .int _
def wBits (w : WD) : WR := fun sd Q => w sd fun d => match d with
  | .int i => Q (.va (.int (Builtin.Int.intBits i : Nat)))
  | _ => False
theorem evr_bits (h : Ev .sh X e w) (hbase : attributeBase e "bit_length" X.env (eval e X.env) = eval e X.env := by rfl) (hline : (apos.endLine == pos.line) = true := by rfl) :
    EvR X (.Call (.Attribute e "bit_length" apos) [] [] pos) (wBits w) where
  pe := PE.weak (pe_bits h.pe hbase hline) fun σ H Q ⟨c, sd, os, hk, r, q⟩ => ⟨c, sd, os, hk, r, h.mo _ _ _ (fun d k v H1 x1 dm => by
    cases d with
    | int i => exact ⟨i, shInt dm, k _ H1 x1 (.int _)⟩
    | _ => exact k.elim) q⟩
  mo := fun sd Q Q' k q => h.mo _ _ _ (fun d z => by
    cases d with
    | int i => exact k _ z
    | _ => exact z.elim) q
/-- an iterator that may lay new things -/
def ItNew (K : PySem.W.Frag) (J : It) (ds : List PyData) (O : List Addr) (H : Hp) : Prop :=
  (∀ i d, ds[i]? = some d → J.go i H ∧ ∀ x H3, J.yld i H x H3 → Same H H3 ∧ ((∀ a ∈ O, H a ≠ none) → Dx K (hid O H3) x d)) ∧ ∀ i, ds.length ≤ i → J.stop i H
theorem ItOk.new {K : PySem.W.Frag} {J : It} {ds : List PyData} {O : List Addr} {H : Hp} (h : ItOk K J ds O H) : ItNew K J ds O H :=
  ⟨fun i d e => ⟨(h.1 i d e).1, fun x H3 y => by obtain ⟨rfl, k⟩ := (h.1 i d e).2 x H3 y; exact ⟨Same.refl _, fun _ => k⟩⟩, h.2⟩
theorem for_new (hg : EvG X tg is g) (hb : EvB X body wb) {c : Cd} {sd : SD} {os : List (Option Addr)} {σ : L2.St} {H : Hp} {D : Ends} {E : ED} {J : It} {ds : List PyData} (t : List (V × PyData))
    (hk : c.K = X.K) (r : R c sd os σ H) (er : ER c E D) (ht : ∀ p ∈ t, Dx c.K (hid (OO c os) H) p.1 p.2) (hJ : ∀ O H, (∀ p ∈ t, Dx c.K (hid O H) p.1 p.2) → ItNew c.K J ds O H) (q : forW g wb E ds sd) :
    ∃ W : Nat → Nat → L2.St → Hp → Prop, (∃ m, W 0 m σ H) ∧ ∀ i m σ H, W i m σ H →
      (J.stop i H ∧ D.nx σ H) ∨ (J.go i H ∧ ∃ N : L2.St → Hp → Prop, (∀ σ' H', N σ' H' → ∃ m', m' < m ∧ W (i + 1) m' σ' H') ∧ ∀ x H', J.yld i H x H' → tGt X.K is g x σ H' fun σ2 H2 => tSt X.K wb { D with nx := N, ct := N, bk := D.nx } σ2 H2) := by
  refine ⟨fun i m σ H => ∃ sd os, R { c with T := t ++ c.T } sd os σ H ∧ forW g wb E (ds.drop i) sd ∧ m = ds.length - i ∧ i ≤ ds.length, ⟨_, sd, os, r.more t ht, q, rfl, Nat.zero_le _⟩, ?_⟩
  rintro i m σ H ⟨sd, os, r, q, rfl, hi⟩
  have ok := hJ (OO c os) H fun p m => r.tmp p (List.mem_append_left _ m)
  by_cases hlt : i < ds.length
  · have eg := List.getElem?_eq_getElem hlt
    obtain ⟨go, yl⟩ := ok.1 i _ eg
    rw [List.drop_eq_getElem_cons hlt] at q
    refine .inr ⟨go, fun σ' H' => ∃ sd os, R { c with T := t ++ c.T } sd os σ' H' ∧ forW g wb E (ds.drop (i + 1)) sd, fun σ' H' ⟨sd, os, r, q⟩ => ⟨ds.length - (i + 1), by omega, sd, os, r, q, rfl, hlt⟩, fun x H' y => ?_⟩
    obtain ⟨sm, dx⟩ := yl x H' y
    have dx := dx fun a m => r.there (c := { c with T := t ++ c.T }) m
    have r := r.grow (Ext.of sm)
    refine ⟨{ c with T := t ++ c.T }, sd, os, ds[i], hk, r, by rw [← hk]; exact dx, hg.mo _ _ _ _ (fun s k σ' os' r' _ => ?_) q⟩
    refine ⟨{ c with T := t ++ c.T }, s, os', loopE E (forW g wb E (ds.drop (i + 1))), hk, r', ⟨fun sd os σ H r k => ⟨sd, os, r, k⟩, fun sd os σ H r k => er.nx _ _ _ _ r.less k, fun sd os σ H r k => ⟨sd, os, r, k⟩, er.rt⟩, k⟩
  · have e : i = ds.length := by omega
    subst e
    rw [List.drop_length] at q
    exact .inl ⟨ok.2 _ (Nat.le_refl _), er.nx _ _ _ _ r.less q⟩
def pairD (d e : PyData) : PyData := .tuple [d, e]
/-- what zip of two lists, or of two tuples, tells -/
def dZip (ds : List PyData) (k : List PyData → Prop) : Prop := match ds with
  | [.list xs, .list ys] => k (List.zipWith pairD xs ys)
  | [.tuple xs, .tuple ys] => k (List.zipWith pairD xs ys)
  | _ => False
theorem dZip_mo {ds : List PyData} {k k' : List PyData → Prop} (h : ∀ n, k n → k' n) (q : dZip ds k) : dZip ds k' := by
  unfold dZip at q ⊢
  split at q
  · exact h _ q
  · exact h _ q
  · exact q.elim
theorem it_zip {K : PySem.W.Frag} {O : List Addr} {H : Hp} {x y : Addr} {us vs : List V} {ds es : List PyData} (h1 : SqL K H x us) (h2 : SqL K H y vs) (d1 : DxAll K (hid O H) us ds) (d2 : DxAll K (hid O H) vs es) : ItNew K (Itz K x y) (List.zipWith pairD ds es) O H := by
  refine ⟨fun i d e => ?_, fun i l => ⟨us, vs, h1, h2, ?_⟩⟩
  · rw [List.getElem?_zipWith] at e
    obtain ⟨d', hd⟩ : ∃ d', ds[i]? = some d' := by
      cases q : ds[i]? with
      | none => rw [q] at e; cases e
      | some v => exact ⟨v, rfl⟩
    obtain ⟨e', he⟩ : ∃ e', es[i]? = some e' := by
      cases q : es[i]? with
      | none => rw [hd, q] at e; cases e
      | some v => exact ⟨v, rfl⟩
    rw [hd, he] at e
    cases e
    obtain ⟨u, gu, du⟩ := d1.get hd
    obtain ⟨v, gv, dv⟩ := d2.get he
    refine ⟨⟨us, vs, u, v, h1, h2, gu, gv⟩, fun z H3 ⟨T, x', y', e1, hT, e2, f1, f2⟩ => ?_⟩
    subst e1 e2
    have a1 := f1 us h1
    have a2 := f2 vs h2
    rw [gu] at a1; cases a1
    rw [gv] at a2; cases a2
    exact ⟨same_new hT, fun hO => rv_tup hT hO (.cons du (.cons dv .nil))⟩
  · rw [List.length_zipWith] at l
    rw [d1.len, d2.len]
    omega
theorem it_zipT {K : PySem.W.Frag} {O : List Addr} {H : Hp} {x y : Addr} {us vs : List V} {ds es : List PyData} (h1 : SqT K H x us) (h2 : SqT K H y vs) (d1 : DxAll K (hid O H) us ds) (d2 : DxAll K (hid O H) vs es) : ItNew K (RZ.ItzT K x y) (List.zipWith pairD ds es) O H := by
  refine ⟨fun i d e => ?_, fun i l => ⟨us, vs, h1, h2, ?_⟩⟩
  · rw [List.getElem?_zipWith] at e
    obtain ⟨d', hd⟩ : ∃ d', ds[i]? = some d' := by
      cases q : ds[i]? with
      | none => rw [q] at e; cases e
      | some v => exact ⟨v, rfl⟩
    obtain ⟨e', he⟩ : ∃ e', es[i]? = some e' := by
      cases q : es[i]? with
      | none => rw [hd, q] at e; cases e
      | some v => exact ⟨v, rfl⟩
    rw [hd, he] at e
    cases e
    obtain ⟨u, gu, du⟩ := d1.get hd
    obtain ⟨v, gv, dv⟩ := d2.get he
    refine ⟨⟨us, vs, u, v, h1, h2, gu, gv⟩, fun z H3 ⟨T, x', y', e1, hT, e2, f1, f2⟩ => ?_⟩
    subst e1 e2
    have a1 := f1 us h1
    have a2 := f2 vs h2
    rw [gu] at a1; cases a1
    rw [gv] at a2; cases a2
    exact ⟨same_new hT, fun hO => rv_tup hT hO (.cons du (.cons dv .nil))⟩
  · rw [List.length_zipWith] at l
    rw [d1.len, d2.len]
    omega
theorem DMs.two {K : PySem.W.Frag} {S O : List Addr} {H : Hp} {vs : List V} {d e : PyData} (h : DMs .cl K S O H vs [d, e]) : ∃ x y, vs = [x, y] ∧ Dx K (hid O H) x d ∧ Dx K (hid O H) y e := by
  cases h with
  | cons h1 t =>
    cases t with
    | cons h2 t => cases t; exact ⟨_, _, rfl, h1, h2⟩
/-- for .. in zip(a, b) -/
theorem evs_forZ (h : EvL .cl X [a, b] wl) (hg : EvG X (.Tuple elts kk tpos) is g) (hb : EvB X body wb) (hc : X.calm = true) (hm : X.mg "zip" = none) (hgl : Gl X "zip" := by rfl) (hp : PassesOwn (model X.prog X.w) X.A X.env X.xe := by exact PassesOwn.never)
    (h1 : starEach [a, b] X.env = (false, eval a X.env) :: starEach [b] X.env := by rfl) (h2 : (backTo pos (starEach [b] X.env)).any (·.1) = false := by rfl)
    (hs : ∀ x, foldedSetIterable (.Call (.Name "zip" p) [a, b] [] pos) X.env x = pure x := by intro _; rfl) {pos2 : Pos} :
    EvS X (.For (.Tuple elts kk tpos) (.Call (.Name "zip" p) [a, b] [] pos) body [] pos2) (fun E sd => wl sd fun vs => dZip vs fun ds => forW g wb E ds sd) where
  ps := PS.weak (ps_for hp hc (RZ.pi_zipA hgl hm h.pa h1 h2) hg.pg hb.ps hs) fun D σ H ⟨c, sd, os, E, hk, r, er, q⟩ =>
    ⟨c, sd, os, hk, r, h.mo _ _ _ (fun ds k vs H1 x1 dm => by
      have r1 := r.grow x1
      unfold dZip at k
      split at k
      · rename_i xs ys
        obtain ⟨x, y, rfl, dx, dy⟩ := DMs.two dm
        cases dx with
        | @lst ax us _ g1 g2 =>
          cases dy with
          | @lst ay ws _ g3 g4 =>
            refine ⟨ax, ay, us, ws, rfl, .inl ⟨.inl (.inl (hid_some g1).2), .inl (.inl (hid_some g3).2), for_new hg hb [(V.ref ax, PyData.list xs), (V.ref ay, PyData.list ys)] hk r1 er (fun p m => ?_) (fun O H2 ok => ?_) k⟩⟩
            · rw [hk]
              rcases List.mem_cons.mp m with rfl | m
              · exact .lst g1 g2
              · rw [List.mem_singleton.mp m]; exact .lst g3 g4
            · have o1 := ok _ List.mem_cons_self
              have o2 := ok _ (List.mem_cons_of_mem _ List.mem_cons_self)
              rw [hk] at o1 o2 ⊢
              cases o1 with
              | lst p1 p2 => cases o2 with
                | lst p3 p4 => exact it_zip (.inl (.inl (hid_some p1).2)) (.inl (.inl (hid_some p3).2)) p2 p4
      · rename_i xs ys
        obtain ⟨x, y, rfl, dx, dy⟩ := DMs.two dm
        cases dx with
        | @tup ax us _ g1 g2 =>
          cases dy with
          | @tup ay ws _ g3 g4 =>
            refine ⟨ax, ay, us, ws, rfl, .inr ⟨SqT.same hid_sub g1, SqT.same hid_sub g3, for_new hg hb [(V.ref ax, PyData.tuple xs), (V.ref ay, PyData.tuple ys)] hk r1 er (fun p m => ?_) (fun O H2 ok => ?_) k⟩⟩
            · rw [hk]
              rcases List.mem_cons.mp m with rfl | m
              · exact .tup g1 g2
              · rw [List.mem_singleton.mp m]; exact .tup g3 g4
            · have o1 := ok _ List.mem_cons_self
              have o2 := ok _ (List.mem_cons_of_mem _ List.mem_cons_self)
              rw [hk] at o1 o2 ⊢
              cases o1 with
              | tup p1 p2 => cases o2 with
                | tup p3 p4 => exact it_zipT (SqT.same hid_sub p1) (SqT.same hid_sub p3) p2 p4
      · exact k.elim) q⟩
  mo := fun E E' sd k1 k2 _ _ q => h.mo _ _ _ (fun ds y => dZip_mo (fun n y => forW_mo hg hb k1 k2 _ _ y) y) q
/-- the numbers of a range with a step -/
def stepD' (lo c : Int) (n : Nat) : List PyData := (List.range n).map fun (k : Nat) => PyData.int (lo + k * c)
theorem it_rc {K : PySem.W.Frag} {O : List Addr} {H : Hp} {lo c : Int} {n : Nat} : ItNew K (Itc lo c n) (stepD' lo c n) O H := by
  refine ⟨fun i d e => ?_, fun i l => ?_⟩
  · unfold stepD' at e
    rw [List.getElem?_map] at e
    cases q : (List.range n)[i]? with
    | none => rw [q] at e; cases e
    | some k =>
      rw [q] at e
      obtain ⟨l, e2⟩ := List.getElem?_eq_some_iff.mp q
      rw [List.getElem_range] at e2
      rw [List.length_range] at l
      subst e2
      cases e
      refine ⟨l, fun x H3 y => ?_⟩
      obtain ⟨rfl, rfl⟩ := y
      exact ⟨Same.refl _, fun _ => .int _⟩
  · unfold stepD' at l
    rw [List.length_map, List.length_range] at l
    exact l
/-- range going down -/
def dRng3 (ds : List PyData) (k : Int → Nat → Prop) : Prop := match ds with
  | [.int i, .int j, .int c] => (-(2 ^ 62) ≤ i ∧ i < 2 ^ 62 ∧ -(2 ^ 62) ≤ j ∧ j < 2 ^ 62 ∧ c = -1) ∧ k i (i - j).toNat
  | _ => False
theorem dRng3_mo {ds : List PyData} {k k' : Int → Nat → Prop} (h : ∀ i n, k i n → k' i n) (q : dRng3 ds k) : dRng3 ds k' := by
  unfold dRng3 at q ⊢
  split at q
  · exact ⟨q.1, h _ _ q.2⟩
  · exact q.elim
theorem evs_forR3 (h : EvL .cl X [a, b, c0] wl) (hg : EvG X tg is g) (hb : EvB X body wb) (hc : X.calm = true) (hm : X.mg "range" = none) (hgl : Gl X "range" := by rfl) (hp : PassesOwn (model X.prog X.w) X.A X.env X.xe := by exact PassesOwn.never)
    (h1 : starEach [a, b, c0] X.env = (false, eval a X.env) :: starEach [b, c0] X.env := by rfl) (h2 : (backTo pos (starEach [b, c0] X.env)).any (·.1) = false := by rfl)
    (hs : ∀ x, foldedSetIterable (.Call (.Name "range" p) [a, b, c0] [] pos) X.env x = pure x := by intro _; rfl) {pos2 : Pos} :
    EvS X (.For tg (.Call (.Name "range" p) [a, b, c0] [] pos) body [] pos2) (fun E sd => wl sd fun vs => dRng3 vs fun i n => forW g wb E (stepD' i (-1) n) sd) where
  ps := PS.weak (ps_for hp hc (pi_range3 hgl hm h.pa h1 h2) hg.pg hb.ps hs) fun D σ H ⟨c, sd, os, E, hk, r, er, q⟩ =>
    ⟨c, sd, os, hk, r, h.mo _ _ _ (fun ds k vs H1 x1 dm => by
      unfold dRng3 at k
      split at k
      · obtain ⟨⟨k1, k2, k3, k4, rfl⟩, k⟩ := k
        cases dm with
        | cons m1 t => cases t with
          | cons m2 t => cases t with
            | cons m3 t =>
              cases t
              cases (show Dx _ _ _ _ from m1)
              cases (show Dx _ _ _ _ from m2)
              cases (show Dx _ _ _ _ from m3)
              exact ⟨_, _, _, _, rfl, RgC.neg k1 k2 k3 k4, for_new hg hb [] hk (r.grow x1) er (fun p m => by cases m) (fun O H _ => it_rc) k⟩
      · exact k.elim) q⟩
  mo := fun E E' sd k1 k2 _ _ q => h.mo _ _ _ (fun ds y => dRng3_mo (fun i n y => forW_mo hg hb k1 k2 _ _ y) y) q
end
end DL

set_option Elab.async false
set_option linter.all false
set_option maxRecDepth 100000
set_option maxHeartbeats 400000
/-! addresses with right numbers; where two part -/
namespace DL
open PySem PySem.Spec PyProof.Rows L2
variable [Tb]
abbrev bitsI (k : Int) : Nat := Builtin.Int.intBits k
/-- whether numbers tell a part, or a copy -/
def tellB (r : Rw) (ns : List Int) : Bool := match ns with
  | [] => false
  | k :: rest => if k < 0 then false else match r with
    | .mix _ => (match rest with
      | [n] => decide (k % 2 = 1) && decide ((bitsI k : Int) ≤ n)
      | _ => false)
    | .join rs => decide (k < (rs.length : Int))
    | _ => true
/-- numbers such as are drawn -/
def skey : Rw → List Int → Bool
  | .mix _, ns => (match ns with
    | [k, n] => decide (0 ≤ k) && (decide (k % 2 = 1) && (decide (k < 64) && (decide ((bitsI k : Int) ≤ n) && decide (n ≤ 6))))
    | _ => false)
  | _, _ => true
theorem skey_tell {r s : Rw} {key : List Int} (h : Step r key s) (k : skey r key = true) : tellB r key = true := by
  cases h with
  | @join rs _ i h =>
    have := (List.getElem?_eq_some_iff.mp h).1
    simp only [tellB]
    rw [if_neg (by omega)]
    exact decide_eq_true (by omega)
  | right i => simp only [tellB]; rw [if_neg (by omega)]
  | left i => simp only [tellB]; rw [if_neg (by omega)]
  | mix i n h =>
    simp only [skey, Bool.and_eq_true, decide_eq_true_eq] at k
    simp only [tellB]
    rw [if_neg (by omega), decide_eq_true k.2.1, decide_eq_true k.2.2.2.1]
    rfl
inductive AdS : Rw → List Int → Prop
  | let (c : _root_.Fin 26) : AdS (.let c) []
  | step {r s : Rw} {key p : List Int} (h : Step r key s) (k : skey r key = true) (t : AdS s p) : AdS r (key ++ p)
theorem AdS.ad {r : Rw} {p : List Int} (h : AdS r p) : Ad r p := by
  induction h with
  | «let» c => exact .let c
  | step h _ _ ih => exact .step h ih
theorem AdS.tail {r s : Rw} {key p : List Int} (h : AdS r (key ++ p)) (st : Step r key s) : skey r key = true ∧ AdS s p := by
  generalize e : key ++ p = q at h
  cases h with
  | «let» c => cases st
  | @step _ s' key' p' st' k t =>
    obtain ⟨rfl, rfl⟩ := List.append_inj e (by rw [st.len, st'.len])
    obtain rfl := st.det st'
    exact ⟨k, t⟩
theorem Ad.len {r : Rw} {p : List Int} (h : Ad r p) : p.length ≤ 2 * r.dep := by
  induction h with
  | «let» c => simp
  | step st t ih =>
    have h1 := st.dep
    have h2 := st.len
    rw [List.length_append, h2]
    split <;> omega
theorem cut_postL (key p : List Int) : cutD ((key ++ p).map PyData.int) (some ((key.map PyData.int).length : Int)) none = p.map PyData.int := by rw [List.length_map, cut_postI]
theorem cut_midL (pre key post : List Int) : cutD ((pre ++ (key ++ post)).map PyData.int) (some ((pre.map PyData.int).length : Int)) (some (((pre.map PyData.int).length : Int) + (key.length : Int))) = key.map PyData.int := by rw [List.length_map, cutD_map, cut_mid]
/-- where two addresses part: the row there, the two keys, how far in; none if they don't -/
abbrev Par := Option (Rw × List Int × List Int × Nat)
inductive Prt : Rw → List Int → List Int → Nat → Par → Prop
  | let (c : _root_.Fin 26) (n : Nat) : Prt (.let c) [] [] n none
  | same {r s : Rw} {key p q : List Int} {n : Nat} {o : Par} (h : Step r key s) (t : Prt s p q (n + key.length) o) : Prt r (key ++ p) (key ++ q) n o
  | diff {r s s' : Rw} {k k' p q : List Int} {n : Nat} (h : Step r k s) (h' : Step r k' s') (ne : k ≠ k') : Prt r (k ++ p) (k' ++ q) n (some (r, k, k', n))
theorem prt_of {r : Rw} {p : List Int} (h : Ad r p) : ∀ {q : List Int} (n : Nat), Ad r q → ∃ o, Prt r p q n o := by
  induction h with
  | «let» c =>
    intro q n h
    cases h with
    | «let» _ => exact ⟨_, .let c n⟩
    | step h _ => cases h
  | @step r s key p st t ih =>
    intro q n h
    cases h with
    | «let» _ => cases st
    | @step _ s' key' p' st' t' =>
      by_cases e : key = key'
      · subst e
        obtain rfl := st.det st'
        obtain ⟨o, h⟩ := ih (n + key.length) t'
        exact ⟨o, .same st h⟩
      · exact ⟨_, .diff st st' e⟩
theorem Prt.ads {r : Rw} {p q : List Int} {n : Nat} {o : Par} (h : Prt r p q n o) : AdS r p → AdS r q → ∀ r' k k' m, o = some (r', k, k', m) → skey r' k = true ∧ skey r' k' = true ∧ k ≠ k' ∧ ∃ s s', Step r' k s ∧ Step r' k' s' := by
  induction h with
  | «let» c n => intro _ _ _ _ _ _ e; cases e
  | same st t ih => exact fun a b => ih (a.tail st).2 (b.tail st).2
  | @diff r s s' k k' p q n st st' ne =>
    intro a b _ _ _ _ e
    cases e
    exact ⟨(a.tail st).1, (b.tail st').1, ne, _, _, st, st'⟩
theorem Prt.none_iff {r : Rw} {p q : List Int} {n : Nat} {o : Par} (h : Prt r p q n o) : o = none ↔ p = q := by
  induction h with
  | «let» c n => simp
  | same st t ih => rw [ih]; simp
  | @diff r s s' k k' p q n st st' ne =>
    refine ⟨fun z => (by cases z), fun z => absurd (List.append_inj z (by rw [st.len, st'.len])).1 ne⟩
theorem Way.inv {r : Rw} {p : List Int} {n : Nat} {ss : List (Rw × List Int × Nat)} {c : _root_.Fin 26} (h : Way r p n ss c) : (ss = [] ∧ p = [] ∧ r = .let c) ∨ ∃ (key p' : List Int) (s : Rw) (ss' : List (Rw × List Int × Nat)), p = key ++ p' ∧ ss = (r, key, n) :: ss' ∧ Step r key s ∧ Way s p' (n + key.length) ss' c := by
  cases h with
  | «let» _ _ => exact .inl ⟨rfl, rfl, rfl⟩
  | step st t => exact .inr ⟨_, _, _, _, rfl, rfl, st, t⟩
theorem Prt.letn {c : _root_.Fin 26} {p q : List Int} {n : Nat} {o : Par} (h : Prt (.let c) p q n o) : o = none := by
  cases h with
  | «let» _ _ => rfl
  | same st t => cases st
  | diff st st' ne => cases st
theorem Prt.inv {r s s' : Rw} {k k' a b : List Int} {n : Nat} {o : Par} (h : Prt r (k ++ a) (k' ++ b) n o) (st : Step r k s) (st' : Step r k' s') : (k = k' ∧ Prt s a b (n + k.length) o) ∨ (k ≠ k' ∧ o = some (r, k, k', n)) := by
  generalize e1 : k ++ a = p at h
  generalize e2 : k' ++ b = q at h
  cases h with
  | «let» _ _ => cases st
  | @same _ s2 key p2 q2 _ _ st2 t =>
    obtain ⟨rfl, rfl⟩ := List.append_inj e1 (by rw [st.len, st2.len])
    obtain ⟨rfl, rfl⟩ := List.append_inj e2 (by rw [st'.len, st2.len])
    obtain rfl := st.det st2
    exact .inl ⟨rfl, t⟩
  | @diff _ s2 s3 k2 k3 p2 q2 _ st2 st3 ne =>
    obtain ⟨rfl, rfl⟩ := List.append_inj e1 (by rw [st.len, st2.len])
    obtain ⟨rfl, rfl⟩ := List.append_inj e2 (by rw [st'.len, st3.len])
    exact .inr ⟨ne, rfl⟩
/-- whether one part or copy stands ahead of another one -/
def keyB : Rw → List Int → List Int → Bool
  | .mix rs, k, k' => (match k, k' with
    | [a, m], [b, n] => decide (a * 2 ^ n.toNat < b * 2 ^ m.toNat)
    | _, _ => false)
  | r, k, k' => keyA r k k'
def ahdB : Par → Bool
  | none => false
  | some (r, k, k', _) => keyB r k k'
theorem six (n : Nat) (h : n < 6) : ([.int 1, .int 2, .int 4, .int 8, .int 16, .int 32] : List PyData)[n]? = some (.int ((2 ^ n : Nat) : Int)) := by
  match n, h with
  | 0, _ => rfl
  | 1, _ => rfl
  | 2, _ => rfl
  | 3, _ => rfl
  | 4, _ => rfl
  | 5, _ => rfl
theorem bits_six : ∀ n : _root_.Fin 6, ∀ k : _root_.Fin 32, k.val < 2 ^ n.val → bitsI ((1 + 2 * k.val : Nat) : Int) ≤ n.val + 1 := by decide +kernel
theorem skey_mix {rs : List Rw} {n k : Nat} (hn : n < 6) (hk : k < 2 ^ n) : skey (.mix rs) [((1 + 2 * k : Nat) : Int), ((n + 1 : Nat) : Int)] = true := by
  have h32 : 2 ^ n ≤ 2 ^ 5 := Nat.pow_le_pow_right (by decide) (by omega)
  have h32' : (2 : Nat) ^ 5 = 32 := rfl
  have hb := bits_six ⟨n, hn⟩ ⟨k, by omega⟩ hk
  simp only [skey, Bool.and_eq_true, decide_eq_true_eq]
  refine ⟨by omega, by omega, by omega, ?_, by omega⟩
  have : bitsI ((1 + 2 * k : Nat) : Int) ≤ n + 1 := hb
  exact Int.ofNat_le.mpr this
theorem skey_not {r : Rw} (h : r.isM = false) (key : List Int) : skey r key = true := by cases r <;> first | rfl | cases h
theorem cshl_ok {a b : Int} (h0 : 0 ≤ a) (h1 : a < 64) (h2 : 0 ≤ b) (h3 : b ≤ 64) : CShl a b := by
  obtain ⟨n, rfl⟩ := Int.eq_ofNat_of_zero_le h2
  exact shl_ok (n := 6) (by show a.natAbs < 64; omega) (by omega)
theorem good_bool (b : Bool) : Good (.bool b) := good_pl (by simp [pl]) (by simp only [PyData.depth]; omega) (by simp only [wt]; omega)
theorem good_int {i : Int} (h : smI i = true) : Good (.int i) := good_pl (by simp [pl, h]) (by simp only [PyData.depth]; omega) (by simp only [wt]; omega)
theorem good_let (c : _root_.Fin 26) : Good (Rw.let c).toD := good_row (.let c) (by simp [Rw.dep]) (by simp [Rw.nodes])
end DL

set_option Elab.async false
set_option linter.all false
set_option maxRecDepth 100000
set_option maxHeartbeats 400000
/-! the place next to a place -/
namespace DL
open PySem PySem.Spec PyProof.Rows L2
variable [Tb]
def Rw.isLf : Rw → Bool | .left _ => true | _ => false
/-- the number beside k, on the side s: false behind, true ahead -/
def bes (s : Bool) (r : Rw) (k : Int) : Int := if r.isLf = s then k + 1 else k - 1
def partR : Rw → Int → Rw
  | .join rs, i => rs.getD i.toNat (.let 0)
  | .right r, _ => r
  | .left r, _ => r
  | r, _ => r
/-- one level: whether it is decided there, and what -/
def stepF (s : Bool) (r : Rw) : List Int → Option (Option (List Int))
  | [] => none
  | k :: _ => if r.isM then some none else if tellB r [bes s r k] = true then some (((partR r (bes s r k)).ep s).map (bes s r k :: ·)) else none
def combF (s : Bool) (r : Rw) (key : List Int) : Option (Option (List Int)) → Option (Option (List Int))
  | some (some q) => some (some (key ++ q))
  | some none => some none
  | none => stepF s r key
def nbF (s : Bool) : List (Rw × List Int × Nat) → Option (Option (List Int))
  | [] => none
  | (r, key, _) :: ss => combF s r key (nbF s ss)
/-- the place next to a place -/
def nbP (s : Bool) (ss : List (Rw × List Int × Nat)) : Option (List Int) := (nbF s ss).join
theorem tell_step {s : Bool} {r t : Rw} {k : Int} (st : Step r [k] t) (hm : r.isM = false) (h : tellB r [bes s r k] = true) : Step r [bes s r k] (partR r (bes s r k)) := by
  have h0 : ¬ bes s r k < 0 := fun z => by simp only [tellB, if_pos z] at h; cases h
  simp only [tellB, if_neg h0] at h
  generalize bes s r k = b at *
  obtain ⟨n, rfl⟩ := Int.eq_ofNat_of_zero_le (Int.not_lt.mp h0)
  generalize e : [k] = key at st
  cases st with
  | @join rs _ i hi =>
    have hl : n < rs.length := by have := of_decide_eq_true h; omega
    refine .join n ?_
    show rs[n]? = some (rs.getD n (.let 0))
    rw [List.getD_eq_getElem?_getD, List.getElem?_eq_getElem hl]; rfl
  | right i => exact .right n
  | left i => exact .left n
  | mix _ _ _ => cases hm
theorem bes_back (s : Bool) (r : Rw) (k : Int) : bes (!s) r (bes s r k) = k := by
  unfold bes
  cases s <;> cases r.isLf <;> simp
theorem step_one {r t : Rw} {key : List Int} (st : Step r key t) (hm : r.isM = false) : ∃ k : Nat, key = [(k : Int)] := by
  cases st with
  | join k h => exact ⟨k, rfl⟩
  | right i => exact ⟨i, rfl⟩
  | left i => exact ⟨i, rfl⟩
  | mix _ _ _ => cases hm
theorem tell_of {r t : Rw} {k : Int} (st : Step r [k] t) (hm : r.isM = false) : tellB r [k] = true := skey_tell st (skey_not hm _)
theorem part_of {r t : Rw} {k : Int} (st : Step r [k] t) (hm : r.isM = false) : partR r k = t := by
  generalize e : [k] = key at st
  cases st with
  | @join rs _ i hi =>
    have : k = (i : Int) := (List.cons.inj e).1
    subst this
    show rs.getD (i : Int).toNat (.let 0) = _
    rw [Int.toNat_natCast, List.getD_eq_getElem?_getD, hi]; rfl
  | right i => rfl
  | left i => rfl
  | mix _ _ _ => cases hm
/-- nothing is decided exactly at the end on that side -/
theorem nbF_none (s : Bool) {r : Rw} {p : List Int} {n : Nat} {ss : List (Rw × List Int × Nat)} {c : _root_.Fin 26} (w : Way r p n ss c) : nbF s ss = none ↔ r.ep (!s) = some p := by
  induction w with
  | «let» c n => simp [nbF, Rw.ep]
  | @step r t key p n ss c st w ih =>
    simp only [nbF]
    have hc : combF s r key (nbF s ss) = none ↔ nbF s ss = none ∧ stepF s r key = none := by
      cases h : nbF s ss with
      | none => simp [combF]
      | some o => cases o <;> simp [combF]
    rw [hc, ih]
    by_cases hm : r.isM = true
    · obtain ⟨k, rest, e⟩ : ∃ k rest, key = k :: rest := by cases st <;> exact ⟨_, _, rfl⟩
      subst e
      have e2 : r.ep (!s) = none := by cases r <;> first | rfl | cases hm
      simp only [stepF, hm, if_true, e2]
      simp
    · have hm : r.isM = false := by simpa using hm
      obtain ⟨k, rfl⟩ := step_one st hm
      simp only [stepF, hm, Bool.false_eq_true, if_false]
      have hk : tellB r [bes s r (k : Int)] = false ↔ (match r with | .join rs => (if s = true then k = 0 else k + 1 = rs.length) | .left _ => s = false ∧ k = 0 | .right _ => s = true ∧ k = 0 | _ => False) := by
        cases st with
        | @join rs _ _ hi =>
          have hl := (List.getElem?_eq_some_iff.mp hi).1
          cases s <;> simp [tellB, bes, Rw.isLf] <;> omega
        | right i => cases s <;> simp [tellB, bes, Rw.isLf] <;> omega
        | left i => cases s <;> simp [tellB, bes, Rw.isLf] <;> omega
      have hif : (if tellB r [bes s r (k : Int)] = true then some (((partR r (bes s r (k : Int))).ep s).map (bes s r (k : Int) :: ·)) else none) = none ↔ tellB r [bes s r (k : Int)] = false := by
        cases tellB r [bes s r (k : Int)] <;> simp
      rw [hif, hk]
      cases st with
      | @join rs _ _ hi =>
        have hl := (List.getElem?_eq_some_iff.mp hi).1
        cases s with
        | false =>
          simp only [Rw.ep, Bool.not_false, if_true, Bool.false_eq_true, if_false, List.singleton_append]
          by_cases e : k + 1 = rs.length
          · have e2 : rs[rs.length - 1]? = some t := by rw [← e]; exact hi
            rw [Rw.epL_eq true rs e2]
            have e3 : ((rs.length - 1 : Nat) : Int) = (k : Int) := by omega
            rw [e3]
            cases t.ep true <;> simp [e]
          · simp only [e, and_false, false_iff]
            cases h : Rw.epL true rs with
            | none => simp
            | some x => simp; omega
        | true =>
          simp only [Rw.ep, Bool.not_true, if_true, Bool.false_eq_true, if_false, List.singleton_append]
          by_cases e : k = 0
          · subst e
            rw [Rw.epH_eq false rs hi]
            cases t.ep false <;> simp
          · simp only [e, and_false, false_iff]
            cases h : Rw.epH false rs with
            | none => simp
            | some x => simp; omega
      | right i =>
        cases s with
        | false => simp [Rw.ep]
        | true =>
          simp only [Rw.ep, Bool.not_true, Bool.false_eq_true, if_false, List.singleton_append]
          cases t.ep false <;> simp [eq_comm, and_comm]
      | left i =>
        cases s with
        | true => simp [Rw.ep]
        | false =>
          simp only [Rw.ep, Bool.not_false, if_true, List.singleton_append]
          cases t.ep true <;> simp [eq_comm, and_comm]
end DL
namespace DL
open PySem PySem.Spec PyProof.Rows L2
variable [Tb]
theorem combF_some {s : Bool} {r : Rw} {key q : List Int} {o : Option (Option (List Int))} (h : combF s r key o = some (some q)) : (∃ q', o = some (some q') ∧ q = key ++ q') ∨ (o = none ∧ stepF s r key = some (some q)) := by
  cases o with
  | none => exact .inr ⟨rfl, h⟩
  | some o =>
    cases o with
    | none => cases h
    | some q' => cases h; exact .inl ⟨q', rfl, rfl⟩
theorem Ad.way' {r : Rw} {p : List Int} (h : AdS r p) (n : Nat) : ∃ ss c, Way r p n ss c := h.ad.way n
theorem ep_ads {s : Bool} (r : Rw) : ∀ {p : List Int}, r.ep s = some p → AdS r p := by
  refine rw_ind (P := fun r => ∀ {p : List Int}, r.ep s = some p → AdS r p) (fun r ih p h => ?_) r
  rcases ep_first h with ⟨c, rfl, rfl⟩ | ⟨k, t, p', st, h1, rfl, h2, _, _⟩
  · exact .let c
  · have hm : r.isM = false := by cases st <;> rfl
    exact .step (key := [(k : Int)]) st (skey_not hm _) (ih t st.nodes h1)
/-- the number beside, and the order -/
theorem bes_ahd {s : Bool} {r t t' : Rw} {k : Int} (st : Step r [k] t) (hm : r.isM = false) : keyB r (if s then [bes s r k] else [k]) (if s then [k] else [bes s r k]) = true := by
  generalize e : [k] = key at st
  cases st with
  | join i hi => have := (List.cons.inj e).1; subst this; cases s <;> simp [keyB, keyA, bes, Rw.isLf] <;> omega
  | right i => have := (List.cons.inj e).1; subst this; cases s <;> simp [keyB, keyA, bes, Rw.isLf] <;> omega
  | left i => have := (List.cons.inj e).1; subst this; cases s <;> simp [keyB, keyA, bes, Rw.isLf] <;> omega
  | mix _ _ _ => cases hm
theorem nbF_some (s : Bool) {r : Rw} {p : List Int} {n : Nat} {ss : List (Rw × List Int × Nat)} {c : _root_.Fin 26} (w : Way r p n ss c) : AdS r p → ∀ q, nbF s ss = some (some q) →
    AdS r q ∧ (∀ ss' c', Way r q n ss' c' → nbF (!s) ss' = some (some p)) ∧ ∃ o, Prt r (if s then q else p) (if s then p else q) n o ∧ ahdB o = true := by
  induction w with
  | «let» c n => intro _ q h; cases h
  | @step r t key p n ss c st w ih =>
    intro ap q h
    obtain ⟨hk, tp⟩ := ap.tail st
    rcases combF_some h with ⟨q', h1, rfl⟩ | ⟨h1, h2⟩
    · obtain ⟨a, b, o, c1, c2⟩ := ih tp q' h1
      refine ⟨.step st hk a, fun ss' c' w' => ?_, o, ?_, c2⟩
      · rcases Way.inv w' with ⟨_, e, _⟩ | ⟨key2, q2, t2, ss2, e, rfl, st2, w2⟩
        · exfalso
          have := congrArg List.length e
          have hl := st.len
          rw [List.length_append, hl] at this
          simp only [List.length_nil] at this
          split at this <;> omega
        · obtain ⟨rfl, rfl⟩ := List.append_inj e (by rw [st.len, st2.len])
          obtain rfl := st.det st2
          show combF (!s) r key (nbF (!s) ss2) = _
          rw [b ss2 c' w2]
          rfl
      · cases s
        · exact .same st c1
        · exact .same st c1
    · have hn := (nbF_none s w).mp h1
      by_cases hm : r.isM = true
      · exfalso
        obtain ⟨k, rest, e⟩ : ∃ k rest, key = k :: rest := by cases st <;> exact ⟨_, _, rfl⟩
        subst e
        simp [stepF, hm] at h2
      · have hm : r.isM = false := by simpa using hm
        obtain ⟨k, rfl⟩ := step_one st hm
        simp only [stepF, hm, Bool.false_eq_true, if_false] at h2
        by_cases ht : tellB r [bes s r (k : Int)] = true
        · rw [if_pos ht] at h2
          have h2 := Option.some.inj h2
          obtain ⟨e, he, rfl⟩ := Option.map_eq_some_iff.mp h2
          have st' := tell_step st hm ht
          have ae := ep_ads _ he
          refine ⟨.step (key := [bes s r (k : Int)]) st' (skey_not hm _) ae, fun ss' c' w' => ?_, ?_⟩
          · rcases Way.inv w' with ⟨_, e2, _⟩ | ⟨key2, q2, t2, ss2, e2, rfl, st2, w2⟩
            · cases e2
            · obtain ⟨rfl, rfl⟩ := List.append_inj (show [bes s r (k : Int)] ++ e = key2 ++ q2 from e2) (by rw [st'.len, st2.len])
              obtain rfl := st'.det st2
              have hn2 : nbF (!s) ss2 = none := (nbF_none (!s) w2).mpr (by rw [Bool.not_not]; exact he)
              show combF (!s) r [bes s r (k : Int)] (nbF (!s) ss2) = _
              rw [hn2]
              show stepF (!s) r [bes s r (k : Int)] = _
              simp only [stepF, hm, Bool.false_eq_true, if_false]
              rw [bes_back, if_pos (tell_of st hm), part_of st hm, hn]
              rfl
          · have ne : (k : Int) ≠ bes s r (k : Int) := by unfold bes; split <;> omega
            have hb := bes_ahd (s := s) (t' := t) st hm
            cases s
            · exact ⟨_, .diff (k := [(k : Int)]) (k' := [bes false r (k : Int)]) st st' (fun z => ne (List.cons.inj z).1), hb⟩
            · exact ⟨_, .diff (k := [bes true r (k : Int)]) (k' := [(k : Int)]) st' st (fun z => ne (List.cons.inj z).1.symm), hb⟩
        · rw [if_neg ht] at h2
          cases h2
/-- numbers stay small -/
def Bd (M : Int) (p : List Int) : Prop := ∀ x ∈ p, 0 ≤ x ∧ x < M
theorem Bd.mono {M N : Int} {p : List Int} (h : Bd M p) (l : M ≤ N) : Bd N p := fun x m => ⟨(h x m).1, Int.lt_of_lt_of_le (h x m).2 l⟩
theorem nbF_bd (s : Bool) {M : Int} {r : Rw} {p : List Int} {n : Nat} {ss : List (Rw × List Int × Nat)} {c : _root_.Fin 26} (w : Way r p n ss c) (hM : (r.nodes : Int) < M) : Bd M p → ∀ q, nbF s ss = some (some q) → Bd (M + 1) q := by
  induction w with
  | «let» c n => intro _ q h; cases h
  | @step r t key p n ss c st w ih =>
    intro bp q h
    have hno := st.nodes
    rcases combF_some h with ⟨q', h1, rfl⟩ | ⟨h1, h2⟩
    · have := ih (by omega) (fun x m => bp x (List.mem_append_right _ m)) q' h1
      intro x m
      rcases List.mem_append.mp m with m | m
      · have := bp x (List.mem_append_left _ m); omega
      · exact this x m
    · by_cases hm : r.isM = true
      · exfalso
        obtain ⟨k, rest, e⟩ : ∃ k rest, key = k :: rest := by cases st <;> exact ⟨_, _, rfl⟩
        subst e
        simp [stepF, hm] at h2
      · have hm : r.isM = false := by simpa using hm
        obtain ⟨k, rfl⟩ := step_one st hm
        simp only [stepF, hm, Bool.false_eq_true, if_false] at h2
        by_cases ht : tellB r [bes s r (k : Int)] = true
        · rw [if_pos ht] at h2
          obtain ⟨e, he, rfl⟩ := Option.map_eq_some_iff.mp (Option.some.inj h2)
          have st' := tell_step st hm ht
          have hno' := st'.nodes
          have hk := bp (k : Int) (List.mem_append_left _ List.mem_cons_self)
          have hb : 0 ≤ bes s r (k : Int) := by
            rcases Int.lt_or_le (bes s r (k : Int)) 0 with z | z
            · simp only [tellB, if_pos z] at ht; cases ht
            · exact z
          have hb2 : bes s r (k : Int) ≤ (k : Int) + 1 := by unfold bes; split <;> omega
          intro x m
          rcases List.mem_cons.mp m with rfl | m
          · exact ⟨hb, by omega⟩
          · have := (ep_sm _ he).1 x m; omega
        · rw [if_neg ht] at h2
          cases h2
end DL
namespace DL
open PySem PySem.Spec PyProof.Rows L2
variable [Tb]
theorem way_split {x : Rw × List Int × Nat} {done : List (Rw × List Int × Nat)} {c : _root_.Fin 26} : ∀ (init : List (Rw × List Int × Nat)) {r : Rw} {p : List Int} {n : Nat}, Way r p n (init ++ x :: done) c →
    ∃ pre rest t, p = pre ++ (x.2.1 ++ rest) ∧ x.2.2 = n + pre.length ∧ Step x.1 x.2.1 t ∧ Way t rest (n + pre.length + x.2.1.length) done c ∧ x.1.nodes ≤ r.nodes ∧ (r.wf = true → x.1.wf = true) ∧ (∀ s o, nbF s (x :: done) = some o → nbF s (init ++ x :: done) = some (o.map (pre ++ ·))) ∧ pre = (init.map (·.2.1)).flatten
  | [], r, p, n, w => by
    rcases Way.inv w with ⟨e, _, _⟩ | ⟨key, p', t, ss', rfl, e, st, w'⟩
    · cases e
    · obtain ⟨rfl, rfl⟩ := List.cons.inj e
      exact ⟨[], p', t, rfl, rfl, st, w', Nat.le_refl _, id, fun s o h => by rw [List.nil_append, h]; cases o <;> rfl, rfl⟩
  | y :: init, r, p, n, w => by
    rcases Way.inv w with ⟨e, _, _⟩ | ⟨key, p', t, ss', rfl, e, st, w'⟩
    · cases e
    · obtain ⟨rfl, rfl⟩ := List.cons.inj e
      obtain ⟨pre, rest, t2, rfl, e2, st2, w2, h1, h2, h3, h4⟩ := way_split init w'
      refine ⟨key ++ pre, rest, t2, by rw [List.append_assoc], by rw [List.length_append, e2]; omega, st2, by rw [List.length_append, ← Nat.add_assoc]; exact w2, by have := st.nodes; omega, fun h => h2 (st.wf h), fun s o h => ?_, by rw [h4]; rfl⟩
      show combF s r key (nbF s (init ++ x :: done)) = _
      rw [h3 s o h]
      cases o with
      | none => rfl
      | some q => show some (some (key ++ (pre ++ q))) = some (some ((key ++ pre) ++ q)); rw [List.append_assoc]
end DL
namespace DL
open PySem PySem.Spec PyProof.Rows L2
variable [Tb]
theorem stepD_succ (lo c : Int) (n : Nat) : stepD' lo c (n + 1) = .int lo :: stepD' (lo + c) c n := by
  unfold stepD'
  rw [List.range_succ_eq_map, List.map_cons, List.map_map]
  refine congr (congrArg _ (by simp)) (List.map_congr_left fun k _ => ?_)
  show PyData.int (lo + ((k + 1 : Nat) : Int) * c) = PyData.int (lo + c + (k : Int) * c)
  congr 1
  rw [Int.natCast_add, Int.add_mul]
  show lo + ((k : Int) * c + 1 * c) = _
  omega
end DL
namespace DL
open PySem PySem.Spec PyProof.Rows L2
variable [Tb]
theorem Way.len {r : Rw} {p : List Int} {n : Nat} {ss : List (Rw × List Int × Nat)} {c : _root_.Fin 26} (h : Way r p n ss c) : ss.length ≤ r.dep := by
  induction h with
  | «let» c n => simp
  | step st t ih => have := st.dep; simp only [List.length_cons]; omega
theorem stepD_down (m : Nat) : stepD' (((m + 1 : Nat) : Int) - 1) (-1) (m + 1) = .int (m : Int) :: stepD' ((m : Int) - 1) (-1) m := by
  rw [stepD_succ]
  have e : (((m + 1 : Nat) : Int) - 1) = (m : Int) := by omega
  rw [e]
  rfl
end DL
namespace DL
open PySem PySem.Spec PyProof.Rows L2
variable [Tb]
theorem step_join {rs : List Rw} {b : Int} {t : Rw} (h : Step (.join rs) [b] t) : ∃ n : Nat, b = (n : Int) ∧ rs[n]? = some t := by
  generalize e : [b] = key at h
  cases h with
  | join k h => exact ⟨k, (List.cons.inj e).1, h⟩
theorem tell_joinT {rs : List Rw} {b : Int} (h : tellB (.join rs) [b] = true) : 0 ≤ b ∧ b < (rs.length : Int) := by
  by_cases z : b < 0
  · simp only [tellB, if_pos z] at h; cases h
  · simp only [tellB, if_neg z] at h; exact ⟨by omega, of_decide_eq_true h⟩
theorem tell_joinF {rs : List Rw} {b : Int} (h : tellB (.join rs) [b] = false) (h0 : 0 ≤ b) : ¬ b < (rs.length : Int) := by
  simp only [tellB, if_neg (show ¬ b < 0 by omega)] at h; exact of_decide_eq_false h
theorem tell_rlT {r : Rw} {b : Int} (h : tellB r [b] = true) : 0 ≤ b := by
  by_cases z : b < 0
  · simp only [tellB, if_pos z] at h; cases h
  · omega
theorem tell_rF {r : Rw} {b : Int} (h : tellB (.right r) [b] = false) : ¬ 0 ≤ b := fun z => by
  simp only [tellB, if_neg (show ¬ b < 0 by omega)] at h; cases h
theorem tell_lF {r : Rw} {b : Int} (h : tellB (.left r) [b] = false) : ¬ 0 ≤ b := fun z => by
  simp only [tellB, if_neg (show ¬ b < 0 by omega)] at h; cases h
end DL
namespace DL
open PySem PySem.Spec PyProof.Rows L2
variable [Tb]
theorem pl_intsB {p : List Int} (h : Bd 128 p) : pl (intsD p) = true ∧ (intsD p).depth ≤ 1 ∧ wt (intsD p) = 6 * p.length + 3 := by
  have key : ∀ p : List Int, Bd 128 p → plL (p.map PyData.int) = true ∧ wtL (p.map PyData.int) = 6 * p.length := by
    intro p
    induction p with
    | nil => intro _; exact ⟨rfl, rfl⟩
    | cons a p ih =>
      intro h
      have t := ih fun x m => h x (List.mem_cons_of_mem _ m)
      have ha := h a List.mem_cons_self
      simp only [List.map_cons, plL, wtL, pl, wt, t.1, t.2, List.length_cons, Bool.and_true]
      exact ⟨decide_eq_true (by omega), by omega⟩
  have k := key p h
  unfold intsD
  simp only [pl, wt, PyData.depth, k.1, k.2, (ints_lay p).2]
  exact ⟨trivial, by omega, trivial⟩
theorem pl_optB {o : Option (List Int)} (h : ∀ p, o = some p → Bd 128 p ∧ p.length ≤ 100) : pl (optD o) = true ∧ (optD o).depth ≤ 1 ∧ wt (optD o) ≤ 700 := by
  cases o with
  | none => exact ⟨rfl, by simp [optD, PyData.depth], by simp [optD, wt]⟩
  | some p =>
    have hp := h p rfl
    have := pl_intsB hp.1
    show pl (intsD p) = true ∧ _ ∧ _
    exact ⟨this.1, this.2.1, by show wt (intsD p) ≤ 700; omega⟩
theorem good_optsL {os : List (Option (List Int))} (h : ∀ o ∈ os, ∀ p, o = some p → Bd 128 p ∧ p.length ≤ 100) (hl : os.length ≤ 1000) : Good (.list (os.map optD)) := by
  have key : ∀ os : List (Option (List Int)), (∀ o ∈ os, ∀ p, o = some p → Bd 128 p ∧ p.length ≤ 100) → plL (os.map optD) = true ∧ PyData.depthAll (os.map optD) ≤ 1 ∧ wtL (os.map optD) ≤ 702 * os.length := by
    intro os
    induction os with
    | nil => intro _; simp [plL, PyData.depthAll, wtL]
    | cons o os ih =>
      intro h
      have a := pl_optB (h o List.mem_cons_self)
      have b := ih fun x m => h x (List.mem_cons_of_mem _ m)
      simp only [List.map_cons, plL, PyData.depthAll, wtL, List.length_cons, a.1, b.1, Bool.and_self]
      exact ⟨trivial, by omega, by omega⟩
  have k := key os h
  refine good_pl ?_ ?_ ?_
  · simp only [pl]; exact k.1
  · simp only [PyData.depth]; omega
  · simp only [wt]; omega
theorem good_optsB {o1 o2 : Option (List Int)} (h1 : ∀ p, o1 = some p → Bd 128 p ∧ p.length ≤ 100) (h2 : ∀ p, o2 = some p → Bd 128 p ∧ p.length ≤ 100) : Good (.list [optD o1, optD o2]) :=
  good_optsL (os := [o1, o2]) (fun o m => by
    rcases List.mem_cons.mp m with rfl | m
    · exact h1
    · rw [List.mem_singleton.mp m]; exact h2) (by simp)
theorem nbP_some {s : Bool} {ss : List (Rw × List Int × Nat)} {q : List Int} (h : nbP s ss = some q) : nbF s ss = some (some q) := by
  unfold nbP at h
  cases e : nbF s ss with
  | none => rw [e] at h; cases h
  | some o => rw [e] at h; exact congrArg some h
theorem nbP_of {s : Bool} {ss : List (Rw × List Int × Nat)} {q : List Int} (h : nbF s ss = some (some q)) : nbP s ss = some q := by unfold nbP; rw [h]; rfl
theorem nbP_end (s : Bool) {r : Rw} {p : List Int} {n : Nat} {ss : List (Rw × List Int × Nat)} {c : _root_.Fin 26} (w : Way r p n ss c) (h : r.ep (!s) = some p) : nbP s ss = none := by unfold nbP; rw [(nbF_none s w).mpr h]; rfl
theorem al_ads {r : Rw} {ds out : List PyData} (h : Al (fun _ e => ∃ p, e = intsD p ∧ AdS r p ∧ Sm p) ds out) : ∃ ps : List (List Int), out = ps.map intsD ∧ (∀ p ∈ ps, AdS r p ∧ Sm p) ∧ ps.length = ds.length := by
  induction h with
  | nil => exact ⟨[], rfl, fun p m => (by cases m), rfl⟩
  | cons h t ih =>
    obtain ⟨p, rfl, h1, h2⟩ := h
    obtain ⟨ps, rfl, h3, h4⟩ := ih
    refine ⟨p :: ps, rfl, fun x m => ?_, by simp [h4]⟩
    rcases List.mem_cons.mp m with rfl | m
    · exact ⟨h1, h2⟩
    · exact h3 x m
theorem isNon_opt (o : Option (List Int)) : isNon (optD o) = !o.isSome := by cases o <;> rfl
theorem tst_no {W : WB} {sd : SD} {Q : Bool → Prop} (h : ∀ Q' : Bool → Prop, Q' false → W sd Q') (q : Q false) : W sd Q := h Q q
end DL

set_option Elab.async false
set_option linter.all false
set_option maxRecDepth 100000
set_option maxHeartbeats 400000
/-! sides with greater numbers; where two addresses part, and what is between -/
namespace DL
open PySem PySem.Spec PyProof.Rows L2
variable [Tb]
abbrev SmB (p : List Int) : Prop := Bd 128 p
theorem SmB.of_app {p q : List Int} (h : SmB (p ++ q)) : SmB p ∧ SmB q := ⟨fun x m => h x (List.mem_append_left _ m), fun x m => h x (List.mem_append_right _ m)⟩
theorem SmB.of {p : List Int} (h : Sm p) : SmB p := fun x m => ⟨(h x m).1, by have := (h x m).2; omega⟩
theorem beyond_factsB (s : Bool) {r t : Rw} {key : List Int} (st : Step r key t) (h : SmB key) : Rw.depL (beyond s r key) ≤ r.dep ∧ Rw.nodesL (beyond s r key) ≤ 128 * r.nodes := by
  cases st with
  | @join rs _ k hk =>
    have e : ((k : Int)).toNat = k := Int.toNat_natCast k
    have t1 := nodesL_take rs k
    have t2 := nodesL_take rs (k + 1)
    cases s
    · simp only [beyond, e, Bool.false_eq_true, if_false, Rw.dep, Rw.nodes]
      exact ⟨by have := Rw.depL_le (n := Rw.depL rs) (rs := rs.take k) fun x m => Rw.dep_mem (List.mem_of_mem_take m); omega, by omega⟩
    · simp only [beyond, e, if_true, Rw.dep, Rw.nodes]
      exact ⟨by have := Rw.depL_le (n := Rw.depL rs) (rs := rs.drop (k + 1)) fun x m => Rw.dep_mem (List.mem_of_mem_drop m); omega, by omega⟩
  | right i =>
    have hi := h _ List.mem_cons_self
    have e : ((i : Int)).toNat = i := Int.toNat_natCast i
    cases s
    · simp only [beyond, e, Bool.false_eq_true, if_false, Rw.dep, Rw.nodes, repl_nodesL]
      refine ⟨by have := Rw.depL_le (n := t.dep) (rs := List.replicate i t) fun x m => by rw [List.eq_of_mem_replicate m]; exact Nat.le_refl _
                 omega, ?_⟩
      have := Nat.mul_le_mul_right t.nodes (show i ≤ 128 by omega)
      omega
    · simp only [beyond, if_true, Rw.dep, Rw.nodes, Rw.depL, Rw.nodesL]
      omega
  | left i =>
    have hi := h _ List.mem_cons_self
    have e : ((i : Int)).toNat = i := Int.toNat_natCast i
    cases s
    · simp only [beyond, Bool.false_eq_true, if_false, Rw.dep, Rw.nodes, Rw.depL, Rw.nodesL]
      omega
    · simp only [beyond, e, if_true, Rw.dep, Rw.nodes, repl_nodesL]
      refine ⟨by have := Rw.depL_le (n := t.dep) (rs := List.replicate i t) fun x m => by rw [List.eq_of_mem_replicate m]; exact Nat.le_refl _
                 omega, ?_⟩
      have := Nat.mul_le_mul_right t.nodes (show i ≤ 128 by omega)
      omega
  | mix k n hk =>
    simp only [beyond, Rw.dep, Rw.nodes, Rw.depL, Rw.nodesL]
    omega
theorem side_factsB (s : Bool) {r : Rw} {p : List Int} {n : Nat} {ss : List (Rw × List Int × Nat)} {c : _root_.Fin 26} (w : Way r p n ss c) (M : Nat) :
    SmB p → 128 * r.nodes + 1 ≤ M → ∀ t, sideF s ss = some t → t.dep ≤ r.dep + ss.length ∧ t.nodes ≤ ss.length * M := by
  induction w with
  | «let» c n => intro _ _ t h; cases h
  | @step r u key0 p n ss c st w ih =>
    intro hs hN t h
    obtain ⟨h1, h2⟩ := hs.of_app
    have hn := st.nodes
    have hd := st.dep
    have b := beyond_factsB s st h1
    have i := ih h2 (by omega)
    simp only [sideF] at h
    have f := laidR_facts _ h
    have key : Rw.depL (sideF s ss).toList ≤ u.dep + ss.length ∧ Rw.nodesL (sideF s ss).toList ≤ ss.length * M := by
      rw [toList_dep, toList_nodes]
      cases e : sideF s ss with
      | none => simp
      | some v => exact i v e
    rw [List.length_cons, Nat.add_mul, Nat.one_mul]
    generalize ss.length * M = Z at key
    cases s
    · simp only [Bool.false_eq_true, if_false, Rw.depL_app, Rw.nodesL_app] at f
      omega
    · simp only [if_true, Rw.depL_app, Rw.nodesL_app] at f
      omega
/-- where two addresses part, with what is there -/
inductive PX : Rw → List Int → List Int → Rw → List Int → List Int → Rw → Rw → List Int → List Int → Prop
  | here {r s s' : Rw} {k k' p2 q2 : List Int} (h : Step r k s) (h' : Step r k' s') (ne : k ≠ k') : PX r (k ++ p2) (k' ++ q2) r k k' s s' p2 q2
  | deep {r t : Rw} {key p q : List Int} {r' : Rw} {k k' : List Int} {s s' : Rw} {p2 q2 : List Int} (h : Step r key t) (x : PX t p q r' k k' s s' p2 q2) : PX r (key ++ p) (key ++ q) r' k k' s s' p2 q2
section
variable {r : Rw} {p q : List Int} {r' : Rw} {k k' : List Int} {s s' : Rw} {p2 q2 : List Int}
theorem PX.of {r : Rw} {p : List Int} (h : Ad r p) : ∀ {q : List Int}, Ad r q → p ≠ q → ∃ r' k k' s s' p2 q2, PX r p q r' k k' s s' p2 q2 := by
  induction h with
  | «let» c => intro q h n; cases h with
    | «let» => exact absurd rfl n
    | step h t => cases h
  | @step r s key p st t ih =>
    intro q h n
    cases h with
    | «let» c => cases st
    | @step _ s2 key2 p2 st2 t2 =>
      by_cases e : key = key2
      · subst e
        obtain rfl := st.det st2
        obtain ⟨r', k, k', s, s', a, b, x⟩ := ih t2 (fun z => n (by rw [z]))
        exact ⟨r', k, k', s, s', a, b, .deep st x⟩
      · exact ⟨_, _, _, _, _, _, _, .here st st2 e⟩
theorem PX.swap (x : PX r p q r' k k' s s' p2 q2) : PX r q p r' k' k s' s q2 p2 := by
  induction x with
  | here h h' ne => exact .here h' h fun z => ne z.symm
  | deep h x ih => exact .deep h ih
theorem PX.prt (x : PX r p q r' k k' s s' p2 q2) : ∀ n : Nat, ∃ pre : List Int, p = pre ++ (k ++ p2) ∧ q = pre ++ (k' ++ q2) ∧ Prt r p q n (some (r', k, k', n + pre.length)) := by
  induction x with
  | here h h' ne => exact fun n => ⟨[], rfl, rfl, .diff h h' ne⟩
  | @deep r t key p q r' k k' s s' p2 q2 h x ih =>
    intro n
    obtain ⟨pre, e1, e2, t⟩ := ih (n + key.length)
    refine ⟨key ++ pre, by rw [e1, List.append_assoc], by rw [e2, List.append_assoc], ?_⟩
    have := Prt.same h t
    rw [List.length_append, ← Nat.add_assoc]
    exact this
theorem PX.facts (x : PX r p q r' k k' s s' p2 q2) : Step r' k s ∧ Step r' k' s' ∧ k ≠ k' ∧ r'.nodes ≤ r.nodes ∧ r'.dep ≤ r.dep ∧ (r.wf = true → r'.wf = true) ∧ (AdS r p → skey r' k = true ∧ AdS s p2) ∧ (AdS r q → skey r' k' = true ∧ AdS s' q2) := by
  induction x with
  | here h h' ne => exact ⟨h, h', ne, Nat.le_refl _, Nat.le_refl _, id, fun a => a.tail h, fun a => a.tail h'⟩
  | deep h x ih =>
    obtain ⟨a1, a2, a3, a4, a5, a6, a7, a8⟩ := ih
    have := h.nodes
    have := h.dep
    exact ⟨a1, a2, a3, by omega, by omega, fun w => a6 (h.wf w), fun a => a7 (a.tail h).2, fun a => a8 (a.tail h).2⟩
/-- the next place is the later one exactly if nothing is between -/
theorem PX.next (x : PX r p q r' k k' s s' p2 q2) : ∀ {n : Nat} {ss : List (Rw × List Int × Nat)} {c : _root_.Fin 26}, Way r p n ss c →
    (nbP false ss = some q ↔ (r'.isM = false ∧ (∃ a : Nat, k = [(a : Int)] ∧ k' = [bes false r' (a : Int)]) ∧ s.ep true = some p2 ∧ s'.ep false = some q2)) := by
  induction x with
  | @here r s s' k k' p2 q2 h h' ne =>
    intro n ss c w
    rcases Way.inv w with ⟨_, e, rfl⟩ | ⟨key, pp, t, ss', e, rfl, st, w'⟩
    · cases h
    obtain ⟨rfl, rfl⟩ := List.append_inj e (by rw [h.len, st.len])
    obtain rfl := h.det st
    have nn := nbF_none false w'
    rcases hb : nbF false ss' with _ | _ | q'
    · have hp : s.ep true = some p2 := nn.mp hb
      by_cases hm : r.isM = true
      · obtain ⟨k0, rest, e⟩ : ∃ k0 rest, k = k0 :: rest := by cases h <;> exact ⟨_, _, rfl⟩
        subst e
        have e1 : nbP false ((r, k0 :: rest, n) :: ss') = none := by
          simp only [nbP, nbF, hb, combF, stepF, hm, if_true]
          rfl
        rw [e1]
        constructor
        · intro z; cases z
        · rintro ⟨z, _⟩; rw [hm] at z; cases z
      · have hm : r.isM = false := by simpa using hm
        obtain ⟨a, rfl⟩ := step_one h hm
        obtain ⟨b, rfl⟩ := step_one h' hm
        have e1 : nbP false ((r, [(a : Int)], n) :: ss') = if tellB r [bes false r (a : Int)] = true then ((partR r (bes false r (a : Int))).ep false).map (bes false r (a : Int) :: ·) else none := by
          simp only [nbP, nbF, hb, combF, stepF, hm, Bool.false_eq_true, if_false]
          split <;> rfl
        rw [e1]
        by_cases ht : tellB r [bes false r (a : Int)] = true
        · rw [if_pos ht]
          have st' := tell_step h hm ht
          constructor
          · intro z
            obtain ⟨e, he, z⟩ := Option.map_eq_some_iff.mp z
            have z : bes false r (a : Int) :: e = (b : Int) :: q2 := z
            obtain ⟨z1, rfl⟩ := List.cons.inj z
            rw [z1] at st' he
            obtain rfl := st'.det h'
            rw [part_of h' hm] at he
            exact ⟨hm, ⟨a, rfl, by rw [z1]⟩, hp, he⟩
          · rintro ⟨_, ⟨a', e1, e2⟩, _, he⟩
            have e1 := (List.cons.inj e1).1
            rw [← e1] at e2
            have e2 := (List.cons.inj e2).1
            rw [← e2, part_of h' hm, he]
            rfl
        · rw [if_neg ht]
          constructor
          · intro z; cases z
          · rintro ⟨_, ⟨a', e1, e2⟩, _, _⟩
            have e1 := (List.cons.inj e1).1
            rw [← e1] at e2
            have e2 := (List.cons.inj e2).1
            have := tell_of h' hm
            rw [e2] at this
            exact absurd this ht
    · have e1 : nbP false ((r, k, n) :: ss') = none := by
        simp only [nbP, nbF, hb, combF]
        rfl
      rw [e1]
      constructor
      · intro z; cases z
      · rintro ⟨_, _, z, _⟩
        rw [nn.mpr z] at hb
        cases hb
    · have e1 : nbP false ((r, k, n) :: ss') = some (k ++ q') := by
        simp only [nbP, nbF, hb, combF]
        rfl
      rw [e1]
      constructor
      · intro z
        exact absurd (List.append_inj (Option.some.inj z) (by rw [h.len, h'.len])).1 ne
      · rintro ⟨_, _, z, _⟩
        rw [nn.mpr z] at hb
        cases hb
  | @deep r t key p q r' k k' s s' p2 q2 h x ih =>
    intro n ss c w
    rcases Way.inv w with ⟨_, e, rfl⟩ | ⟨key', pp, t', ss', e, rfl, st, w'⟩
    · cases h
    obtain ⟨rfl, rfl⟩ := List.append_inj e (by rw [h.len, st.len])
    obtain rfl := h.det st
    rw [← ih w']
    rcases hb : nbF false ss' with _ | _ | q'
    · have e2 : nbP false ss' = none := by rw [nbP, hb]; rfl
      rw [e2]
      constructor
      · intro z
        exfalso
        by_cases hm : r.isM = true
        · obtain ⟨k0, rest, e⟩ : ∃ k0 rest, key = k0 :: rest := by cases h <;> exact ⟨_, _, rfl⟩
          subst e
          have e1 : nbP false ((r, k0 :: rest, n) :: ss') = none := by
            simp only [nbP, nbF, hb, combF, stepF, hm, if_true]
            rfl
          rw [e1] at z
          cases z
        · have hm : r.isM = false := by simpa using hm
          obtain ⟨a, rfl⟩ := step_one h hm
          have e1 : nbP false ((r, [(a : Int)], n) :: ss') = if tellB r [bes false r (a : Int)] = true then ((partR r (bes false r (a : Int))).ep false).map (bes false r (a : Int) :: ·) else none := by
            simp only [nbP, nbF, hb, combF, stepF, hm, Bool.false_eq_true, if_false]
            split <;> rfl
          rw [e1] at z
          split at z
          · obtain ⟨e, he, z⟩ := Option.map_eq_some_iff.mp z
            have z := (List.cons.inj z).1
            unfold bes at z
            split at z <;> omega
          · cases z
      · intro z; cases z
    · have e2 : nbP false ss' = none := by rw [nbP, hb]; rfl
      have e1 : nbP false ((r, key, n) :: ss') = none := by
        simp only [nbP, nbF, hb, combF]
        rfl
      rw [e1, e2]
      constructor <;> (intro z; cases z)
    · have e2 : nbP false ss' = some q' := by rw [nbP, hb]; rfl
      have e1 : nbP false ((r, key, n) :: ss') = some (key ++ q') := by
        simp only [nbP, nbF, hb, combF]
        rfl
      rw [e1, e2]
      constructor
      · intro z; rw [List.append_cancel_left (Option.some.inj z)]
      · intro z; rw [Option.some.inj z]
end
/-! ### what is between two parts or copies -/
def absI (i : Int) : Int := if i < 0 then -i else i
def midR : Rw → List Int → List Int → List Rw
  | .join rs, a :: _, b :: _ => cutD rs (some (a + 1)) (some b)
  | .right r, a :: _, b :: _ => List.replicate (absI (b - a) - 1).toNat r
  | .left r, a :: _, b :: _ => List.replicate (absI (b - a) - 1).toNat r
  | r, _, _ => [r]
theorem cutD_sub {α : Type} (xs : List α) (lo hi : Option Int) : ∀ x ∈ cutD xs lo hi, x ∈ xs := fun x m => List.mem_of_mem_drop (List.mem_of_mem_take m)
theorem nodesL_drop (rs : List Rw) (n : Nat) : Rw.nodesL (rs.drop n) ≤ Rw.nodesL rs := by have := nodesL_take rs n; omega
theorem nodesL_tak (rs : List Rw) (n : Nat) : Rw.nodesL (rs.take n) ≤ Rw.nodesL rs := by have := nodesL_take rs n; omega
theorem mid_facts {r s s' : Rw} {k k' : List Int} (st : Step r k s) (st' : Step r k' s') (h : SmB k) (h' : SmB k') : Rw.depL (midR r k k') ≤ r.dep ∧ Rw.nodesL (midR r k k') ≤ 128 * r.nodes := by
  cases st with
  | @join rs _ a ha =>
    cases st' with
    | join b hb =>
      simp only [midR, Rw.dep, Rw.nodes]
      refine ⟨by have := Rw.depL_le (n := Rw.depL rs) (rs := cutD rs (some ((a : Int) + 1)) (some (b : Int))) fun x m => Rw.dep_mem (cutD_sub _ _ _ x m); omega, ?_⟩
      have e : Rw.nodesL (cutD rs (some ((a : Int) + 1)) (some (b : Int))) ≤ Rw.nodesL rs := Nat.le_trans (nodesL_tak _ _) (nodesL_drop _ _)
      omega
  | right a =>
    cases st' with
    | right b =>
      have h1 := h _ List.mem_cons_self
      have h2 := h' _ List.mem_cons_self
      have e : (absI ((b : Int) - (a : Int)) - 1).toNat ≤ 128 := by unfold absI; split <;> omega
      simp only [midR, Rw.dep, Rw.nodes, repl_nodesL]
      refine ⟨by have := Rw.depL_le (n := s.dep) (rs := List.replicate (absI ((b : Int) - (a : Int)) - 1).toNat s) fun x m => by rw [List.eq_of_mem_replicate m]; exact Nat.le_refl _
                 omega, ?_⟩
      have := Nat.mul_le_mul_right s.nodes e
      omega
  | left a =>
    cases st' with
    | left b =>
      have h1 := h _ List.mem_cons_self
      have h2 := h' _ List.mem_cons_self
      have e : (absI ((b : Int) - (a : Int)) - 1).toNat ≤ 128 := by unfold absI; split <;> omega
      simp only [midR, Rw.dep, Rw.nodes, repl_nodesL]
      refine ⟨by have := Rw.depL_le (n := s.dep) (rs := List.replicate (absI ((b : Int) - (a : Int)) - 1).toNat s) fun x m => by rw [List.eq_of_mem_replicate m]; exact Nat.le_refl _
                 omega, ?_⟩
      have := Nat.mul_le_mul_right s.nodes e
      omega
  | mix a n ha =>
    cases st' with
    | mix b m hb =>
      simp only [midR, Rw.dep, Rw.nodes, Rw.depL, Rw.nodesL]
      omega
theorem cut_nil {α : Type} (xs : List α) (a b : Nat) (h : a < b) (hb : b < xs.length) : cutD xs (some ((a : Int) + 1)) (some (b : Int)) = [] ↔ b = a + 1 := by
  unfold cutD
  have e1 : HT.sIx xs.length 0 (some ((a : Int) + 1)) = a + 1 := by
    show (if ((a : Int) + 1) < 0 then (((a : Int) + 1) + (xs.length : Int)).toNat else min ((a : Int) + 1).toNat xs.length) = _
    rw [if_neg (by omega)]; omega
  have e2 : HT.sIx xs.length xs.length (some (b : Int)) = b := by
    show (if (b : Int) < 0 then ((b : Int) + (xs.length : Int)).toNat else min (b : Int).toNat xs.length) = _
    rw [if_neg (by omega)]; omega
  rw [e1, e2, List.take_eq_nil_iff, List.drop_eq_nil_iff]
  omega
/-- nothing between: the next part, or copy -/
theorem mid_nil {r s s' : Rw} {k k' : List Int} (st : Step r k s) (st' : Step r k' s') (hk : keyB r k k' = true) : midR r k k' = [] ↔ (r.isM = false ∧ ∃ a : Nat, k = [(a : Int)] ∧ k' = [bes false r (a : Int)]) := by
  cases st with
  | @join rs _ a ha =>
    cases st' with
    | join b hb =>
      have hb2 := (List.getElem?_eq_some_iff.mp hb).1
      have hab : a < b := by
        have : decide ((a : Int) < (b : Int)) = true := hk
        have := of_decide_eq_true this
        omega
      simp only [midR]
      rw [cut_nil rs a b hab hb2]
      constructor
      · rintro rfl; exact ⟨rfl, a, rfl, rfl⟩
      · rintro ⟨_, a', e1, e2⟩
        have e1 := (List.cons.inj e1).1
        have e2 : (b : Int) = (a' : Int) + 1 := (List.cons.inj e2).1
        omega
  | right a =>
    cases st' with
    | right b =>
      have hab : a < b := by
        have : decide ((a : Int) < (b : Int)) = true := hk
        have := of_decide_eq_true this
        omega
      simp only [midR, List.replicate_eq_nil_iff]
      have e : (absI ((b : Int) - (a : Int)) - 1).toNat = b - a - 1 := by unfold absI; split <;> omega
      rw [e]
      constructor
      · intro z; exact ⟨rfl, a, rfl, by rw [show (b : Int) = (a : Int) + 1 by omega]; rfl⟩
      · rintro ⟨_, a', e1, e2⟩
        have e1 := (List.cons.inj e1).1
        have e2 : (b : Int) = (a' : Int) + 1 := (List.cons.inj e2).1
        omega
  | left a =>
    cases st' with
    | left b =>
      have hab : b < a := by
        have : decide ((a : Int) > (b : Int)) = true := hk
        have := of_decide_eq_true this
        omega
      simp only [midR, List.replicate_eq_nil_iff]
      have e : (absI ((b : Int) - (a : Int)) - 1).toNat = a - b - 1 := by unfold absI; split <;> omega
      rw [e]
      constructor
      · intro z; exact ⟨rfl, a, rfl, by rw [show (b : Int) = (a : Int) - 1 by omega]; rfl⟩
      · rintro ⟨_, a', e1, e2⟩
        have e1 := (List.cons.inj e1).1
        have e2 : (b : Int) = (a' : Int) - 1 := (List.cons.inj e2).1
        omega
  | mix a n ha =>
    cases st' with
    | mix b m hb =>
      simp only [midR]
      constructor
      · intro z; cases z
      · rintro ⟨z, _⟩; cases z
/-- of two parts or copies one is ahead -/
theorem mix_tot {a b : Int} {m n : Nat} (ha : a % 2 = 1) (hb : b % 2 = 1) (h1 : ¬ a * 2 ^ n < b * 2 ^ m) (h2 : ¬ b * 2 ^ m < a * 2 ^ n) : a = b ∧ m = n := by
  have e : a * 2 ^ n = b * 2 ^ m := by omega
  have key : ∀ (a b : Int) (m n : Nat), a % 2 = 1 → n < m → a * 2 ^ n = b * 2 ^ m → False := by
    intro a b m n ha hl e
    obtain ⟨d, rfl⟩ : ∃ d, m = n + (d + 1) := ⟨m - n - 1, by omega⟩
    rw [Int.pow_add, Int.pow_succ, show b * (2 ^ n * (2 ^ d * 2)) = (b * 2 ^ d * 2) * 2 ^ n by rw [Int.mul_comm (2 ^ n), ← Int.mul_assoc, ← Int.mul_assoc]] at e
    have hp : (2 : Int) ^ n ≠ 0 := Int.ne_of_gt (Int.pow_pos (by omega))
    have := Int.eq_of_mul_eq_mul_right hp e
    omega
  rcases Nat.lt_trichotomy m n with h | h | h
  · exact (key b a n m hb h e.symm).elim
  · subst h
    have hp : (2 : Int) ^ m ≠ 0 := Int.ne_of_gt (Int.pow_pos (by omega))
    exact ⟨Int.eq_of_mul_eq_mul_right hp e, rfl⟩
  · exact (key a b m n ha h e).elim
theorem key_tot {r s s' : Rw} {k k' : List Int} (st : Step r k s) (st' : Step r k' s') (h : skey r k = true) (h' : skey r k' = true) (ne : k ≠ k') (hk : keyB r k k' = false) : keyB r k' k = true := by
  cases st with
  | @join rs _ a ha =>
    cases st' with
    | join b hb =>
      have z : decide ((a : Int) < (b : Int)) = false := hk
      have z := of_decide_eq_false z
      have n2 : a ≠ b := fun e => ne (by rw [e])
      show decide ((b : Int) < (a : Int)) = true
      exact decide_eq_true (by omega)
  | right a =>
    cases st' with
    | right b =>
      have z : decide ((a : Int) < (b : Int)) = false := hk
      have z := of_decide_eq_false z
      have n2 : a ≠ b := fun e => ne (by rw [e])
      show decide ((b : Int) < (a : Int)) = true
      exact decide_eq_true (by omega)
  | left a =>
    cases st' with
    | left b =>
      have z : decide ((a : Int) > (b : Int)) = false := hk
      have z := of_decide_eq_false z
      have n2 : a ≠ b := fun e => ne (by rw [e])
      show decide ((b : Int) > (a : Int)) = true
      exact decide_eq_true (by omega)
  | @mix rs _ a n ha =>
    cases st' with
    | mix b m hb =>
      simp only [skey, Bool.and_eq_true, decide_eq_true_eq] at h h'
      have z : decide ((a : Int) * 2 ^ (((m + 1 : Nat) : Int)).toNat < (b : Int) * 2 ^ (((n + 1 : Nat) : Int)).toNat) = false := hk
      have z := of_decide_eq_false z
      show decide ((b : Int) * 2 ^ (((n + 1 : Nat) : Int)).toNat < (a : Int) * 2 ^ (((m + 1 : Nat) : Int)).toNat) = true
      refine decide_eq_true ?_
      rw [Int.toNat_natCast, Int.toNat_natCast] at z ⊢
      rcases Decidable.em ((b : Int) * 2 ^ (n + 1) < (a : Int) * 2 ^ (m + 1)) with y | y
      · exact y
      · have := mix_tot (a := (a : Int)) (b := (b : Int)) (m := n + 1) (n := m + 1) (by omega) (by omega) z y
        exact absurd (by rw [this.1, show n = m by omega]) ne
/-- what is between two places -/
def btwR (r : Rw) (k k' : List Int) (A B : Option Rw) : Option Rw := laidR (A.toList ++ (midR r k k' ++ B.toList))
theorem btw_none {r : Rw} {k k' : List Int} {A B : Option Rw} : btwR r k k' A B = none ↔ A = none ∧ midR r k k' = [] ∧ B = none := by
  unfold btwR
  rw [laidR_none, List.append_eq_nil_iff, List.append_eq_nil_iff, Option.toList_eq_nil_iff, Option.toList_eq_nil_iff]
/-- .. is nothing exactly if the one is next to the other -/
theorem btw_next {r : Rw} {p q : List Int} {r' : Rw} {k k' : List Int} {s s' : Rw} {p2 q2 : List Int} (x : PX r p q r' k k' s s' p2 q2) (hk : keyB r' k k' = true) {n na nb : Nat} {ss sa sb : List (Rw × List Int × Nat)} {c ca cb : _root_.Fin 26}
    (w : Way r p n ss c) (wa : Way s p2 na sa ca) (wb : Way s' q2 nb sb cb) : btwR r' k k' (sideF true sa) (sideF false sb) = none ↔ nbP false ss = some q := by
  obtain ⟨st, st', _⟩ := x.facts
  rw [btw_none, x.next w, side_none true wa, side_none false wb, mid_nil st st' hk]
  constructor
  · rintro ⟨a, ⟨b, c⟩, d⟩; exact ⟨b, c, a, d⟩
  · rintro ⟨b, c, a, d⟩; exact ⟨a, ⟨b, c⟩, d⟩
end DL

set_option Elab.async false
set_option linter.all false
set_option maxRecDepth 100000
set_option maxHeartbeats 400000
/-! how many letters a row has, and how many are between two places -/
namespace DL
open PySem PySem.Spec PyProof.Rows L2
variable [Tb]
/-- sums of counts: no count at all where one has none -/
def oadd : Option Nat → Option Nat → Option Nat
  | some a, some b => some (a + b)
  | _, _ => none
theorem oadd_none (a : Option Nat) : oadd a none = none := by cases a <;> rfl
theorem none_oadd (a : Option Nat) : oadd none a = none := rfl
theorem oadd_comm (a b : Option Nat) : oadd a b = oadd b a := by
  cases a <;> cases b <;> simp [oadd, Nat.add_comm]
theorem oadd_assoc (a b c : Option Nat) : oadd (oadd a b) c = oadd a (oadd b c) := by
  cases a <;> cases b <;> cases c <;> simp [oadd, Nat.add_assoc]
theorem oadd_zero (a : Option Nat) : oadd a (some 0) = a := by cases a <;> rfl
theorem zero_oadd (a : Option Nat) : oadd (some 0) a = a := by cases a <;> simp [oadd]
instance : Std.Associative oadd := ⟨oadd_assoc⟩
instance : Std.Commutative oadd := ⟨oadd_comm⟩
def osum : List (Option Nat) → Option Nat
  | [] => some 0
  | a :: r => oadd a (osum r)
theorem osum_app : ∀ xs ys : List (Option Nat), osum (xs ++ ys) = oadd (osum xs) (osum ys)
  | [], ys => by rw [List.nil_append]; exact (zero_oadd _).symm
  | x :: xs, ys => by rw [List.cons_append]; simp only [osum]; rw [osum_app xs ys, oadd_assoc]
mutual
def Rw.cnt : Rw → Option Nat
  | .let _ => some 1
  | .join rs => Rw.cntL rs
  | .right _ => none
  | .left _ => none
  | .mix _ => none
def Rw.cntL : List Rw → Option Nat
  | [] => some 0
  | r :: rs => oadd r.cnt (Rw.cntL rs)
end
theorem Rw.cntL_eq : ∀ rs : List Rw, Rw.cntL rs = osum (rs.map Rw.cnt)
  | [] => rfl
  | r :: rs => by simp only [Rw.cntL, List.map_cons, osum, Rw.cntL_eq rs]
theorem Rw.cntL_app (xs ys : List Rw) : Rw.cntL (xs ++ ys) = oadd (Rw.cntL xs) (Rw.cntL ys) := by
  rw [Rw.cntL_eq, Rw.cntL_eq, Rw.cntL_eq, List.map_append, osum_app]
theorem Rw.cntL_one (r : Rw) : Rw.cntL [r] = r.cnt := by simp only [Rw.cntL]; exact oadd_zero _
/-- k times one count -/
def orep (a : Option Nat) (k : Nat) : Option Nat := if k = 0 then some 0 else a.map (k * ·)
theorem orep_succ (a : Option Nat) (k : Nat) : orep a (k + 1) = oadd a (orep a k) := by
  unfold orep
  cases a with
  | none => by_cases h : k = 0 <;> simp [h, oadd]
  | some n =>
    by_cases h : k = 0
    · simp [h, oadd]
    · simp only [h, Nat.succ_ne_zero, if_false, Option.map_some, oadd, Option.some.injEq, Nat.add_mul, Nat.one_mul]
      omega
theorem Rw.cntL_rep (r : Rw) : ∀ k : Nat, Rw.cntL (List.replicate k r) = orep r.cnt k
  | 0 => rfl
  | k + 1 => by rw [List.replicate_succ, orep_succ, ← Rw.cntL_rep r k]; rfl
mutual
theorem Rw.cnt_opened : ∀ r : Rw, Rw.cntL r.opened = r.cnt
  | .let c => by simp only [Rw.opened, Rw.cntL_one]
  | .right r => by simp only [Rw.opened, Rw.cntL_one]
  | .left r => by simp only [Rw.opened, Rw.cntL_one]
  | .mix rs => by simp only [Rw.opened, Rw.cntL_one]
  | .join rs => by simp only [Rw.opened, Rw.cnt, Rw.cntL_opened rs]
theorem Rw.cntL_opened : ∀ rs : List Rw, Rw.cntL (Rw.openedL rs) = Rw.cntL rs
  | [] => rfl
  | r :: rs => by simp only [Rw.openedL, Rw.cntL_app, Rw.cntL, Rw.cnt_opened r, Rw.cntL_opened rs]
end
mutual
theorem Rw.cnt_le : ∀ (r : Rw) (n : Nat), r.cnt = some n → n ≤ r.nodes
  | .let c, n, h => by simp only [Rw.cnt, Option.some.injEq] at h; simp only [Rw.nodes]; omega
  | .join rs, n, h => by simp only [Rw.cnt] at h; have := Rw.cntL_le rs n h; simp only [Rw.nodes]; omega
  | .right r, n, h => by simp only [Rw.cnt] at h; cases h
  | .left r, n, h => by simp only [Rw.cnt] at h; cases h
  | .mix r, n, h => by simp only [Rw.cnt] at h; cases h
theorem Rw.cntL_le : ∀ (rs : List Rw) (n : Nat), Rw.cntL rs = some n → n ≤ Rw.nodesL rs
  | [], n, h => by simp only [Rw.cntL, Option.some.injEq] at h; omega
  | r :: rs, n, h => by
    simp only [Rw.cntL] at h
    cases h1 : r.cnt with
    | none => rw [h1] at h; cases h
    | some a =>
      cases h2 : Rw.cntL rs with
      | none => rw [h1, h2] at h; cases h
      | some b =>
        rw [h1, h2] at h
        have := Rw.cnt_le r a h1
        have := Rw.cntL_le rs b h2
        simp only [oadd, Option.some.injEq] at h
        simp only [Rw.nodesL]
        omega
end
def cntO : Option Rw → Option Nat
  | none => some 0
  | some r => r.cnt
theorem cntO_toList (o : Option Rw) : Rw.cntL o.toList = cntO o := by
  cases o with
  | none => rfl
  | some r => exact Rw.cntL_one r
theorem cnt_laid (rs : List Rw) : cntO (laidR rs) = Rw.cntL rs := by
  match rs with
  | [] => rfl
  | [r] => exact (Rw.cntL_one r).symm
  | r :: s :: rest =>
    show (Rw.join (Rw.openedL (r :: s :: rest))).cnt = _
    simp only [Rw.cnt]
    exact Rw.cntL_opened _
/-- .. on one side of a place -/
def sdC (s : Bool) : List (Rw × List Int × Nat) → Option Nat
  | [] => some 0
  | x :: ss => oadd (Rw.cntL (beyond s x.1 x.2.1)) (sdC s ss)
theorem cnt_side (s : Bool) : ∀ ss : List (Rw × List Int × Nat), cntO (sideF s ss) = sdC s ss
  | [] => rfl
  | x :: ss => by
    simp only [sideF, sdC]
    rw [cnt_laid]
    cases s
    · simp only [Bool.false_eq_true, if_false]
      rw [Rw.cntL_app, cntO_toList, cnt_side false ss]
    · simp only [if_true]
      rw [Rw.cntL_app, cntO_toList, cnt_side true ss, oadd_comm]
def btC (r : Rw) (k k' : List Int) (sa sb : List (Rw × List Int × Nat)) : Option Nat := oadd (sdC true sa) (oadd (Rw.cntL (midR r k k')) (sdC false sb))
theorem cnt_btw (r : Rw) (k k' : List Int) (sa sb : List (Rw × List Int × Nat)) : cntO (btwR r k k' (sideF true sa) (sideF false sb)) = btC r k k' sa sb := by
  unfold btwR btC
  rw [cnt_laid, Rw.cntL_app, Rw.cntL_app, cntO_toList, cntO_toList, cnt_side, cnt_side]
theorem way_one (s : Bool) {r : Rw} {p : List Int} {n : Nat} {ss : List (Rw × List Int × Nat)} {c : _root_.Fin 26} (w : Way r p n ss c) : ∀ {n' : Nat} {ss' : List (Rw × List Int × Nat)} {c' : _root_.Fin 26}, Way r p n' ss' c' → sdC s ss = sdC s ss' := by
  induction w with
  | «let» c n =>
    intro n' ss' c' w'
    rcases Way.inv w' with ⟨rfl, _, _⟩ | ⟨_, _, _, _, _, _, st, _⟩
    · rfl
    · cases st
  | @step r u key p n ss c st w ih =>
    intro n' ss' c' w'
    rcases Way.inv w' with ⟨_, _, rfl⟩ | ⟨key', p', u', ss2, e, rfl, st', w2⟩
    · cases st
    obtain ⟨rfl, rfl⟩ := List.append_inj e (by rw [st.len, st'.len])
    obtain rfl := st.det st'
    simp only [sdC]
    rw [ih w2]
theorem take_get {rs : List Rw} {k : Nat} {s : Rw} (h : rs[k]? = some s) : rs = rs.take k ++ s :: rs.drop (k + 1) := by
  obtain ⟨hk, rfl⟩ := List.getElem?_eq_some_iff.mp h
  rw [List.getElem_cons_drop, List.take_append_drop]
/-- a step parts a row's count -/
theorem cnt_step {r s : Rw} {k : List Int} (st : Step r k s) : r.cnt = oadd (Rw.cntL (beyond false r k)) (oadd s.cnt (Rw.cntL (beyond true r k))) := by
  cases st with
  | @join rs _ k h =>
    have e : ((k : Int)).toNat = k := Int.toNat_natCast k
    simp only [beyond, e, Rw.cnt, Bool.false_eq_true, if_false, if_true]
    have h2 := take_get h
    calc Rw.cntL rs = Rw.cntL (rs.take k ++ s :: rs.drop (k + 1)) := by rw [← h2]
      _ = _ := by rw [Rw.cntL_app]; rfl
  | right i =>
    simp only [beyond, Rw.cnt, if_true, Rw.cntL, none_oadd, oadd_none]
  | left i =>
    simp only [beyond, Rw.cnt, Bool.false_eq_true, if_false, Rw.cntL, none_oadd]
  | mix k n h =>
    simp only [beyond, Rw.cnt, Rw.cntL, none_oadd]
/-- a place parts a row's count -/
theorem cnt_way {r : Rw} {p : List Int} {n : Nat} {ss : List (Rw × List Int × Nat)} {c : _root_.Fin 26} (w : Way r p n ss c) : r.cnt = oadd (sdC false ss) (oadd (some 1) (sdC true ss)) := by
  induction w with
  | «let» c n => rfl
  | @step r u key p n ss c st w ih =>
    simp only [sdC]
    rw [cnt_step st, ih]
    generalize Rw.cntL (beyond false r key) = a
    generalize Rw.cntL (beyond true r key) = b
    generalize sdC false ss = d
    generalize sdC true ss = e
    ac_rfl
theorem cut_nat {α : Type} (xs : List α) (a b : Nat) (h : b ≤ xs.length) : cutD xs (some ((a : Int) + 1)) (some (b : Int)) = (xs.drop (a + 1)).take (b - (a + 1)) := by
  unfold cutD
  have e2 : HT.sIx xs.length xs.length (some (b : Int)) = b := by
    show (if (b : Int) < 0 then ((b : Int) + (xs.length : Int)).toNat else min (b : Int).toNat xs.length) = _
    rw [if_neg (by omega)]; omega
  have e1 : HT.sIx xs.length 0 (some ((a : Int) + 1)) = min (a + 1) xs.length := by
    show (if ((a : Int) + 1) < 0 then (((a : Int) + 1) + (xs.length : Int)).toNat else min ((a : Int) + 1).toNat xs.length) = _
    rw [if_neg (by omega)]; omega
  rw [e1, e2]
  by_cases z : a + 1 ≤ xs.length
  · rw [Nat.min_eq_left z]
  · rw [Nat.min_eq_right (by omega), show b - xs.length = 0 by omega, show b - (a + 1) = 0 by omega, List.take_zero, List.take_zero]
theorem drop_at {rs : List Rw} {a b : Nat} {s : Rw} (h : rs[b]? = some s) (hab : a ≤ b) : rs.drop a = (rs.drop a).take (b - a) ++ s :: rs.drop (b + 1) := by
  obtain ⟨hb, rfl⟩ := List.getElem?_eq_some_iff.mp h
  have e : rs.drop b = rs[b] :: rs.drop (b + 1) := (List.getElem_cons_drop ..).symm
  rw [← e]
  have e2 : rs.drop b = (rs.drop a).drop (b - a) := by rw [List.drop_drop]; congr 1; omega
  rw [e2, List.take_append_drop]
theorem take_at {rs : List Rw} {a b : Nat} {s : Rw} (h : rs[a]? = some s) (hab : a < b) : rs.take b = rs.take a ++ s :: ((rs.drop (a + 1)).take (b - (a + 1))) := by
  have h2 := take_get h
  obtain ⟨ha, rfl⟩ := List.getElem?_eq_some_iff.mp h
  have e : b = a + ((b - (a + 1)) + 1) := by omega
  conv => lhs; rw [e, List.take_add, ← List.getElem_cons_drop (h := ha), List.take_succ_cons]
section
variable {r s s' s'' : Rw} {k k' k'' : List Int}
theorem key_lt_join {rs : List Rw} {a b : Nat} (h : keyB (.join rs) [(a : Int)] [(b : Int)] = true) : a < b := by
  have : decide ((a : Int) < (b : Int)) = true := h
  have := of_decide_eq_true this
  omega
theorem key_lt_right {t : Rw} {a b : Nat} (h : keyB (.right t) [(a : Int)] [(b : Int)] = true) : a < b := by
  have : decide ((a : Int) < (b : Int)) = true := h
  have := of_decide_eq_true this
  omega
theorem key_lt_left {t : Rw} {a b : Nat} (h : keyB (.left t) [(a : Int)] [(b : Int)] = true) : b < a := by
  have : decide ((a : Int) > (b : Int)) = true := h
  have := of_decide_eq_true this
  omega
theorem absN {a b : Nat} (h : a < b) : (absI ((b : Int) - (a : Int)) - 1).toNat = b - a - 1 := by unfold absI; split <;> omega
theorem absN2 {a b : Nat} (h : b < a) : (absI ((b : Int) - (a : Int)) - 1).toNat = a - b - 1 := by unfold absI; split <;> omega
theorem orep_add (a : Option Nat) (i j : Nat) : orep a (i + j) = oadd (orep a i) (orep a j) := by
  induction i with
  | zero => rw [Nat.zero_add]; exact (zero_oadd _).symm
  | succ i ih => rw [show i + 1 + j = (i + j) + 1 by omega, orep_succ, orep_succ, ih, oadd_assoc]
theorem mid_beh (st : Step r k s) (st' : Step r k' s') (h : keyB r k k' = true) : Rw.cntL (beyond true r k) = oadd (Rw.cntL (midR r k k')) (oadd s'.cnt (Rw.cntL (beyond true r k'))) := by
  cases st with
  | @join rs _ a ha =>
    cases st' with
    | join b hb =>
      have hab := key_lt_join h
      have ea : ((a : Int)).toNat = a := Int.toNat_natCast a
      have eb : ((b : Int)).toNat = b := Int.toNat_natCast b
      simp only [beyond, midR, ea, eb, if_true]
      rw [cut_nat rs a b (by have := (List.getElem?_eq_some_iff.mp hb).1; omega)]
      rw [drop_at hb (show a + 1 ≤ b by omega), Rw.cntL_app]
      rw [← drop_at hb (show a + 1 ≤ b by omega)]
      rfl
  | right a =>
    cases st' with
    | right b => simp only [beyond, if_true, Rw.cntL, Rw.cnt, none_oadd, oadd_none]
  | left a =>
    cases st' with
    | left b =>
      have hab := key_lt_left h
      have ea : ((a : Int)).toNat = a := Int.toNat_natCast a
      have eb : ((b : Int)).toNat = b := Int.toNat_natCast b
      simp only [beyond, midR, ea, eb, if_true, absN2 hab, Rw.cntL_rep]
      rw [← orep_succ, ← orep_add]
      congr 1
      omega
  | mix a n ha =>
    cases st' with
    | mix b m hb => simp only [beyond, Rw.cntL, Rw.cnt, none_oadd, oadd_none]
theorem mid_ahd (st : Step r k s) (st' : Step r k' s') (h : keyB r k k' = true) : Rw.cntL (beyond false r k') = oadd (Rw.cntL (beyond false r k)) (oadd s.cnt (Rw.cntL (midR r k k'))) := by
  cases st with
  | @join rs _ a ha =>
    cases st' with
    | join b hb =>
      have hab := key_lt_join h
      have ea : ((a : Int)).toNat = a := Int.toNat_natCast a
      have eb : ((b : Int)).toNat = b := Int.toNat_natCast b
      simp only [beyond, midR, ea, eb, Bool.false_eq_true, if_false]
      rw [cut_nat rs a b (by have := (List.getElem?_eq_some_iff.mp hb).1; omega)]
      rw [take_at ha hab, Rw.cntL_app]
      rfl
  | right a =>
    cases st' with
    | right b =>
      have hab := key_lt_right h
      have ea : ((a : Int)).toNat = a := Int.toNat_natCast a
      have eb : ((b : Int)).toNat = b := Int.toNat_natCast b
      simp only [beyond, midR, ea, eb, Bool.false_eq_true, if_false, absN hab, Rw.cntL_rep]
      rw [← orep_succ, ← orep_add]
      congr 1
      omega
  | left a =>
    cases st' with
    | left b => simp only [beyond, Bool.false_eq_true, if_false, Rw.cntL, Rw.cnt, none_oadd, oadd_none]
  | mix a n ha =>
    cases st' with
    | mix b m hb => simp only [beyond, Rw.cntL, Rw.cnt, none_oadd, oadd_none]
theorem mid_mid (st : Step r k s) (st' : Step r k' s') (st'' : Step r k'' s'') (h : keyB r k k' = true) (h' : keyB r k' k'' = true) (hm : r.isM = false) : keyB r k k'' = true ∧ k ≠ k'' ∧ Rw.cntL (midR r k k'') = oadd (Rw.cntL (midR r k k')) (oadd s'.cnt (Rw.cntL (midR r k' k''))) := by
  cases st with
  | @join rs _ a ha =>
    cases st' with
    | join b hb =>
      cases st'' with
      | join d hd =>
        have hab := key_lt_join h
        have hbd := key_lt_join h'
        have ld := (List.getElem?_eq_some_iff.mp hd).1
        refine ⟨decide_eq_true (by omega : (a : Int) < (d : Int)), fun z => by have z := (List.cons.inj z).1; omega, ?_⟩
        simp only [midR]
        rw [cut_nat rs a b (by omega), cut_nat rs a d (by omega), cut_nat rs b d (by omega)]
        have e1 : rs.drop (a + 1) = (rs.drop (a + 1)).take (b - (a + 1)) ++ s' :: rs.drop (b + 1) := drop_at hb (show a + 1 ≤ b by omega)
        have e2 : (rs.drop (a + 1)).take (d - (a + 1)) = (rs.drop (a + 1)).take (b - (a + 1)) ++ s' :: (rs.drop (b + 1)).take (d - (b + 1)) := by
          have ed : d - (a + 1) = (b - (a + 1)) + ((d - (b + 1)) + 1) := by omega
          rw [ed, List.take_add, List.drop_drop, show a + 1 + (b - (a + 1)) = b by omega]
          obtain ⟨hb2, rfl⟩ := List.getElem?_eq_some_iff.mp hb
          rw [← List.getElem_cons_drop (h := hb2), List.take_succ_cons]
        rw [e2, Rw.cntL_app]
        rfl
  | right a =>
    cases st' with
    | right b =>
      cases st'' with
      | right d =>
        have hab := key_lt_right h
        have hbd := key_lt_right h'
        refine ⟨decide_eq_true (by omega : (a : Int) < (d : Int)), fun z => by have z := (List.cons.inj z).1; omega, ?_⟩
        simp only [midR, absN hab, absN hbd, absN (show a < d by omega), Rw.cntL_rep]
        rw [← orep_succ, ← orep_add]
        congr 1
        omega
  | left a =>
    cases st' with
    | left b =>
      cases st'' with
      | left d =>
        have hab := key_lt_left h
        have hbd := key_lt_left h'
        refine ⟨decide_eq_true (by omega : (a : Int) > (d : Int)), fun z => by have z := (List.cons.inj z).1; omega, ?_⟩
        simp only [midR, absN2 hab, absN2 hbd, absN2 (show d < a by omega), Rw.cntL_rep]
        rw [← orep_succ, ← orep_add]
        congr 1
        omega
  | mix a n ha => cases hm
end
section
variable {r : Rw} {p q : List Int} {r' : Rw} {k k' : List Int} {s s' : Rw} {p2 q2 : List Int}
theorem PX.ne (x : PX r p q r' k k' s s' p2 q2) : p ≠ q := by
  induction x with
  | here h h' ne => exact fun z => ne (List.append_inj z (by rw [h.len, h'.len])).1
  | deep h x ih => exact fun z => ih (List.append_cancel_left z)
theorem PX.beh (x : PX r p q r' k k' s s' p2 q2) (hk : keyB r' k k' = true) {na nb : Nat} {sa sb : List (Rw × List Int × Nat)} {ca cb : _root_.Fin 26} (wa : Way s p2 na sa ca) (wb : Way s' q2 nb sb cb) :
    ∀ {n m : Nat} {sp sq : List (Rw × List Int × Nat)} {c d : _root_.Fin 26}, Way r p n sp c → Way r q m sq d → sdC true sp = oadd (btC r' k k' sa sb) (oadd (some 1) (sdC true sq)) ∧ sdC false sq = oadd (sdC false sp) (oadd (some 1) (btC r' k k' sa sb)) := by
  induction x with
  | @here r s s' k k' p2 q2 h h' ne =>
    intro n m sp sq c d w w'
    rcases Way.inv w with ⟨_, _, rfl⟩ | ⟨key, p', u, ss, e, rfl, st, w2⟩
    · cases h
    rcases Way.inv w' with ⟨_, _, rfl⟩ | ⟨key', p'', u', ss', e', rfl, st', w2'⟩
    · cases h
    obtain ⟨rfl, rfl⟩ := List.append_inj e (by rw [h.len, st.len])
    obtain ⟨rfl, rfl⟩ := List.append_inj e' (by rw [h'.len, st'.len])
    obtain rfl := h.det st
    obtain rfl := h'.det st'
    simp only [sdC]
    have t1 := way_one true wa w2
    have t2 := way_one false wb w2'
    have t3 := cnt_way wb
    have t4 := way_one true wb w2'
    have t5 := cnt_way wa
    have t6 := way_one false wa w2
    unfold btC
    rw [mid_beh h h' hk, mid_ahd h h' hk, t3, t5, ← t1, ← t2, ← t4, ← t6]
    generalize sdC true sa = a
    generalize sdC false sb = b
    generalize sdC true sb = d
    generalize sdC false sa = g
    generalize Rw.cntL (midR _ _ _) = e
    generalize Rw.cntL (beyond true _ _) = f
    generalize Rw.cntL (beyond false _ _) = j
    exact ⟨by ac_rfl, by ac_rfl⟩
  | @deep r t key p q r' k k' s s' p2 q2 h x ih =>
    intro n m sp sq c d w w'
    rcases Way.inv w with ⟨_, _, rfl⟩ | ⟨key1, p', u, ss, e, rfl, st, w2⟩
    · cases h
    rcases Way.inv w' with ⟨_, _, rfl⟩ | ⟨key2, p'', u', ss', e', rfl, st', w2'⟩
    · cases h
    obtain ⟨rfl, rfl⟩ := List.append_inj e (by rw [h.len, st.len])
    obtain ⟨rfl, rfl⟩ := List.append_inj e' (by rw [h.len, st'.len])
    obtain rfl := h.det st
    obtain rfl := h.det st'
    obtain ⟨i1, i2⟩ := ih hk wa wb w2 w2'
    simp only [sdC]
    rw [i1, i2]
    generalize btC r' k k' sa sb = a
    generalize sdC true ss' = b
    generalize sdC false ss = d
    generalize Rw.cntL (beyond true _ _) = f
    generalize Rw.cntL (beyond false _ _) = j
    exact ⟨by ac_rfl, by ac_rfl⟩
end
/-- three places, one behind the other -/
theorem PX.three {r : Rw} {p q q' : List Int} {r1 : Rw} {k1 k1' : List Int} {s1 s1' : Rw} {p1 q1 : List Int} (x : PX r p q r1 k1 k1' s1 s1' p1 q1) : ∀ {r2 : Rw} {k2 k2' : List Int} {s2 s2' : Rw} {p2 q2 : List Int}, PX r q q' r2 k2 k2' s2 s2' p2 q2 →
    keyB r1 k1 k1' = true → keyB r2 k2 k2' = true → r2.isM = false →
    ∀ {na nb nd ne : Nat} {sa sb sd se : List (Rw × List Int × Nat)} {ca cb cd ce : _root_.Fin 26}, Way s1 p1 na sa ca → Way s1' q1 nb sb cb → Way s2 p2 nd sd cd → Way s2' q2 ne se ce →
    ∃ (r3 : Rw) (k3 k3' : List Int) (s3 s3' : Rw) (p3 q3 : List Int), PX r p q' r3 k3 k3' s3 s3' p3 q3 ∧ keyB r3 k3 k3' = true ∧ ∀ {nf ng : Nat} {sf sg : List (Rw × List Int × Nat)} {cf cg : _root_.Fin 26}, Way s3 p3 nf sf cf → Way s3' q3 ng sg cg → btC r3 k3 k3' sf sg = oadd (btC r1 k1 k1' sa sb) (oadd (some 1) (btC r2 k2 k2' sd se)) := by
  induction x generalizing q' with
  | @here r s s' k k' p2 q2 h h' ne =>
    intro r2 k2 k2' s2 s2' p3 q3 y hk1 hk2 hm na nb nd ne' sa sb sd se ca cb cd ce wa wb wd we
    generalize eq : k' ++ q2 = q0 at y
    cases y with
    | @here _ t t' l l' u v g g' ne2 =>
      obtain ⟨rfl, rfl⟩ := List.append_inj eq (by rw [h'.len, g.len])
      obtain rfl := h'.det g
      obtain ⟨m1, m2, m3⟩ := mid_mid h h' g' hk1 hk2 hm
      refine ⟨_, _, _, _, _, _, _, .here h g' m2, m1, fun wf wg => ?_⟩
      unfold btC
      rw [way_one true wf wa, way_one false wg we, m3, cnt_way wb, way_one true wd wb]
      generalize sdC true sa = a
      generalize sdC false sb = b
      generalize sdC true sb = d
      generalize sdC false se = f
      generalize Rw.cntL (midR _ _ _) = e
      generalize Rw.cntL (midR _ _ _) = g
      ac_rfl
    | @deep _ t key a b _ _ _ _ _ _ _ g y =>
      obtain ⟨rfl, rfl⟩ := List.append_inj eq (by rw [h'.len, g.len])
      obtain rfl := h'.det g
      refine ⟨_, _, _, _, _, _, _, .here h h' ne, hk1, fun wf wg => ?_⟩
      have b := (y.beh hk2 wd we wb wg).2
      unfold btC at b ⊢
      rw [way_one true wf wa, b]
      generalize sdC true sa = a
      generalize sdC false sb = b
      generalize sdC true sd = d
      generalize sdC false se = f
      generalize Rw.cntL (midR _ _ _) = e
      generalize Rw.cntL (midR _ _ _) = g
      ac_rfl
  | @deep r t key p q r1 k k' s s' p2 q2 h x ih =>
    intro r2 k2 k2' s2 s2' p3 q3 y hk1 hk2 hm na nb nd ne' sa sb sd se ca cb cd ce wa wb wd we
    generalize eq : key ++ q = q0 at y
    cases y with
    | @here _ u u' l l' v w g g' ne2 =>
      obtain ⟨rfl, rfl⟩ := List.append_inj eq (by rw [h.len, g.len])
      obtain rfl := h.det g
      refine ⟨_, _, _, _, _, _, _, .here g g' ne2, hk2, fun wf wg => ?_⟩
      have b := (x.beh hk1 wa wb wf wd).1
      unfold btC at b ⊢
      rw [b, way_one false wg we]
      generalize sdC true sa = a
      generalize sdC false sb = b
      generalize sdC true sd = d
      generalize sdC false se = f
      generalize Rw.cntL (midR _ _ _) = e
      generalize Rw.cntL (midR _ _ _) = g
      ac_rfl
    | @deep _ u key' a b _ _ _ _ _ _ _ g y =>
      obtain ⟨rfl, rfl⟩ := List.append_inj eq (by rw [h.len, g.len])
      obtain rfl := h.det g
      obtain ⟨r3, k3, k3', s3, s3', p3, q3, z, hz, hb⟩ := ih y hk1 hk2 hm wa wb wd we
      exact ⟨_, _, _, _, _, _, _, .deep h z, hz, hb⟩
end DL

set_option Elab.async false
set_option linter.all false
set_option maxRecDepth 100000
set_option maxHeartbeats 4000000
/-! any of a generator expression over a list; the element x[0] in ('a', 'b', ..) -/
namespace DL
open PySem PySem.Spec PyProof.Rows L2
variable [Tb]
/-- a value's kind, and where it is a tuple its first thing's kind -/
def KndF (B : Kept) (v : Value) (d : PyData) : Prop := Knd B v d ∧ match d with
  | .tuple (d0 :: _) => ∃ (a : Addr) (o : Obj) (its : List Value) (n : Nat) (v0 : Value), v = .ref a ∧ B a o ∧ o.cls = .type "tuple" ∧ o.data = .seq its.toArray n ∧ its[0]? = some v0 ∧ Knd B v0 d0
  | _ => True
theorem kndF_of {X : Cx} {pins : List (Addr × Obj)} {σ : L2.St} {H : Hp} {s : Shared} {x : V} {u : Value} {d : PyData} {B : Kept} (I : Inv X pins σ H s) (rx : RelV x u) (h : Dx X.K H x d)
    (hB : ∀ b o, s.heap.get? b = some o → (o.cls = .type "list" ∨ o.cls = .type "tuple" ∨ o.cls = .type "dict") → B b o) : KndF B u d := by
  refine ⟨knd_of I rx h hB, ?_⟩
  cases h with
  | @tup a xs ds h1 h2 =>
    cases (show u = Value.ref a from rx)
    cases h2 with
    | nil => exact True.intro
    | @cons x0 xs0 d0 ds0 g0 t0 =>
      obtain ⟨its, o, n, rv, e, hc, hd⟩ := L2.sqT_at I.hok I.kIn h1
      obtain ⟨v0, e0, r0⟩ := rv.get (show (x0 :: xs0)[0]? = some x0 from rfl)
      exact ⟨a, o, its, n, v0, rfl, hB a o e (.inr (.inl hc)), hc, hd, e0, knd_of I r0 g0 hB⟩
  | _ => exact True.intro
/-- the test of one thing: quiet, where all that stood is kept -/
def EltF (X : Cx) (scope : Scope) (x : Str) (elt : Expr) (ok : PyData → Prop) (pb : PyData → Bool) : Prop :=
  ∀ (B : Kept) (env : Env) (m : Str → Option Value) (d : PyData) (u : Value), L2.Mod X.K X.mg X.base → (∀ b o, X.base.get? b = some o → B b o) → QEnv env → env.scope = scope → m x = some u → KndF B u d → ok d → Qe X.prog X.w B (X.A.depth + 1) env m elt (· = .bool (pb d))
section
variable {X : Cx} {pins : List (Addr × Obj)} {σ : L2.St} {H : Hp} {s : Shared}
theorem gen_lst {c P : Addr} {elt iter : Expr} {x : Str} {px gpos : Pos} {scope : Scope} {ok : PyData → Prop} {pb : PyData → Bool} {te : TE} {k : Nat} {Q' : Value → Shared → Prop} {R : List PyData → Hp → Prop}
    (hr : Room k X.A) (TB : GxR.TabB X.base X.mg c P) (hcode : X.env.code = .ref c) (S : GxR.GenS X.env scope x) (hi : PE X iter te) (hel : EltF X scope x elt ok pb)
    (hs : ∀ v, genFold iter X.env v = pure v) (I : Inv X pins σ H s)
    (h : te σ H fun v H1 => ∃ (a : Addr) (xs : List V) (ds : List PyData) (O : List Addr), v = .ref a ∧ SqL X.K H1 a xs ∧ DxAll X.K (hid O H1) xs ds ∧ (∀ d ∈ ds, ok d) ∧ GxR.TabG H1 P ∧ R ds H1)
    (hQ : ∀ ds H1 g s5, R ds H1 → RdyD X pins σ H1 P ds pb g s5 → Q' (.ref g) s5) :
    wpAny (model X.prog X.w) X.A (eval (.GeneratorExp elt [⟨.Name x px, iter, [], 0⟩] scope gpos) X.env) Q' X.xe s := by
  refine wpAny_GeneratorExp_walksQD hr.hd S.co (closure_ok S.free) S.cell S.dot S.loc S.kind (by have := hr.dp; omega) ?_ hs
  refine thn (hi.run pins s σ H _ I h) ?_
  rintro xv s1 ⟨v, H1, I1, r1, a, xs, ds, O, rfl, hT, hD, hok, ⟨ps, hP, ht⟩, q1⟩
  cases (show xv = Value.ref a from r1)
  obtain ⟨its, ot, nt, rv, eo, ec, ed⟩ := L2.sqL_at I1.hok I1.kIn hT
  have tup1 : s1.heap.IsList a its.toArray := ⟨ot, eo, ec, nt, ed⟩
  have len : its.length = ds.length := by rw [← rv.length]; exact hD.len
  refine wpAny_pyIter_list tup1 ?_
  generalize eit : ({ cls := .type "list_iterator", data := .fields #[.ref a, .int 0 0] } : Obj) = it
  have atP : s1.heap.get? P = some { cls := .none, data := .fields ps } := I1.hok P _ hP
  have ltP : P < s1.heap.objs.size := Heap.lt_size atP
  have lta : a < s1.heap.objs.size := Heap.lt_size eo
  have neP : ∀ b o, s1.heap.get? b = some o → (o.cls = .type "list" ∨ o.cls = .type "tuple" ∨ o.cls = .type "dict") → b ≠ P := fun b o e hc z => by
    rw [z, atP] at e
    cases e
    rcases hc with z | z | z <;> cases z
  have up : ∀ b o, s1.heap.get? b = some o → (s1.heap.push it).get? b = some o := fun b o e => Heap.get?_push_of_some _ e
  have iter0 : (s1.heap.push it).IsListIter s1.heap.objs.size a 0 := by
    subst eit
    exact ⟨_, Heap.get?_push_size _ rfl, rfl, rfl⟩
  have atP2 := up _ _ atP
  have cd : PySem.W.CodeHd (s1.heap.push it) c P := TB.code.keeps fun b u e => up b u (I1.bk b u e)
  have lim2 : (s1.heap.push it).NoLimit := I1.nolimit.push it
  -- behind the making of the code object, whether it was there or not
  have go : ∀ (code : Value) (h3 : Heap) (tk : Nat) (ps' : Array Value), Heap.ExtBut P (s1.heap.push it) h3 → (s1.heap.push it).objs.size ≤ h3.objs.size → h3.get? P = some { cls := .none, data := .fields ps' } → (∃ more, ps' = ps ++ more) → TriplesOk ps'.toList →
      wpAny (model X.prog X.w) X.A (builtinsFor X.env.globals X.env.builtins) (fun bi s₄ =>
        ∃ Ia fp wr n₀ Pf St₀ pz F, Value.ref s1.heap.objs.size = .ref Ia ∧ (∀ A' : Around, A'.handled = none → Walks X.prog X.w A' Ia fp wr n₀ Pf St₀) ∧ St₀ 0 s₄.heap ∧ (∀ b ∈ fp, b < s₄.heap.objs.size) ∧ s₄.heap.NoLimit ∧ cStatics ∉ wr ∧
          (∀ href : Heap, (∀ b o, s₄.heap.get? b = some o → href.get? b = some o) →
            QuietGenD X.prog X.w (genEnv scope (cloFrom X.env.cells scope.names []) s₄.heap.objs.size code bi X.env) x [] elt (List.range s₄.heap.objs.size) wr Pf pz F href (X.A.depth + 1) (X.A.units + 8)) ∧
          (∀ a h₅ tk gs, gs.bare = true → s₄.heap.objs.size < a → h₅.objs.size = a + 1 → (∀ b o, s₄.heap.get? b = some o → h₅.get? b = some o) →
            WalksS X.prog X.w X.A.in4 a (a :: s₄.heap.objs.size :: List.range s₄.heap.objs.size) (s₄.heap.objs.size :: wr) (GenOnlyQ s₄.gens.size) (passing pz n₀ 0).length
              (fun j y => ∃ i, (passing pz n₀ 0)[j]? = some i ∧ F i y) (GenAt X.prog X.w X.A.in4 a s₄.gens.size s₄.heap.objs.size (List.range s₄.heap.objs.size) wr pz n₀ F) →
            GenAt X.prog X.w X.A.in4 a s₄.gens.size s₄.heap.objs.size (List.range s₄.heap.objs.size) wr pz n₀ F 0 { s₄ with gens := s₄.gens.push gs, toks := tk, heap := h₅ } →
            Q' (.ref a) { s₄ with gens := s₄.gens.push gs, toks := tk, heap := h₅ })) X.xe { s1 with heap := h3, toks := tk } := by
    rintro code h3 tk _ grown big atP3 ⟨more, rfl⟩ ht3
    obtain ⟨bm, ob, e1, e2, e3, e4, e5, e6, e7, e8⟩ := TB.bm
    have lts : cStatics < s1.heap.objs.size := let ⟨_, hns, _⟩ := I1.nolimit; hns.lt
    have nesP : cStatics ≠ P := fun z => by
      obtain ⟨_, ⟨o', es, ep, ho, hd, _⟩, _⟩ := I1.nolimit
      rw [z, atP] at ho
      cases ho
      cases hd
    have size2 : (s1.heap.push it).objs.size = s1.heap.objs.size + 1 := Heap.size_push ..
    have keep : ∀ b u, b ≠ P → s1.heap.get? b = some u → h3.get? b = some u := fun b u n e => grown b u n (up b u e)
    have iter3 : h3.IsListIter s1.heap.objs.size a 0 := iter0.at fun u e => grown _ u (Nat.ne_of_gt ltP) e
    have tup3 : h3.IsList a its.toArray := ⟨ot, keep _ _ (neP a ot eo (.inl ec)) eo, ec, nt, ed⟩
    refine wpAny_builtinsFor (m := X.mg) (by rw [I1.ok.glob]; exact ((I1.mod.glob.keeps I1.bk).push it).extBut grown TB.gP) e1 e2 (keep _ _ e4 (I1.bk _ _ e5)) e6 e7 e8 ?_
    refine ⟨_, [s1.heap.objs.size, a], [s1.heap.objs.size], its.toArray.size, (fun i v => its.toArray[i]? = some v), (fun i h => h.IsListIter s1.heap.objs.size a i ∧ h.IsList a its.toArray), (fun _ => true), (fun i y => ∃ d, ds[i]? = some d ∧ y = .bool (pb d)), rfl,
      fun A' hA => Walks.list hA _ _ (Nat.ne_of_lt lta) _, ⟨iter3, tup3⟩, fun b m => ?_, lim2.extBut grown nesP, fun m => ?_, fun href sub => ⟨?_, ?_⟩, ?_⟩
    · have big1 : s1.heap.objs.size < h3.objs.size := Nat.lt_of_lt_of_le (by rw [size2]; exact Nat.lt_succ_self _) big
      show b < h3.objs.size
      rcases List.mem_cons.mp m with z | m
      · rw [z]; exact big1
      · rw [List.mem_singleton.mp m]; exact Nat.lt_trans lta big1
    · exact Nat.ne_of_lt lts (List.mem_singleton.mp m)
    · intro A' E' i v s₂ m₂ _ _ _ _ _ _ _
      simp only [List.forIn_nil]
      exact wpAny_pure ⟨rfl, GxR.keeps_refl _⟩
    · intro A' E' i v s₂ m₂ _ dp _ hv _ hn hm hk
      have hv2 : its[i]? = some v := by simpa using hv
      have il : i < its.length := (List.getElem?_eq_some_iff.mp hv2).1
      obtain ⟨y, hy⟩ : ∃ y, xs[i]? = some y := ⟨xs[i]'(by rw [rv.length]; exact il), List.getElem?_eq_getElem _⟩
      obtain ⟨u, hu, ru⟩ := rv.get hy
      rw [hv2] at hu
      cases hu
      obtain ⟨d, hd, dx⟩ := hD.get' hy
      -- all that stood ahead of it but for the table and the iterator is kept
      let B : Kept := fun b o => b ≠ P ∧ s1.heap.get? b = some o
      have kb : KIn B s₂.heap := fun b o e => hk b (List.mem_range.mpr (by
          have l := Heap.lt_size e.2
          have big1 : s1.heap.objs.size < h3.objs.size := Nat.lt_of_lt_of_le (by rw [size2]; exact Nat.lt_succ_self _) big
          exact Nat.lt_trans l big1)) (fun m => by
          have l := Heap.lt_size e.2
          rw [List.mem_singleton.mp m] at l
          exact Nat.lt_irrefl _ l) o (sub b o (keep b o e.1 e.2))
      have inB : ∀ b o, X.base.get? b = some o → B b o := fun b o e => ⟨fun z => (by
          have := (I1.bs b o e).2
          rw [z, hP] at this
          cases this), I1.bk b o e⟩
      have kd : KndF B v d := kndF_of I1 ru (Dx.same hid_sub d y dx) fun b o e hc => ⟨neP b o e hc, e⟩
      have qv : QEnv (genEnv scope (cloFrom X.env.cells scope.names []) h3.objs.size code builtinsNs X.env) := ⟨S.kind, I1.ok.glob, rfl⟩
      exact wpAny_mono (hel B _ m₂ d v I1.mod inB qv rfl hm kd (hok d (List.mem_of_getElem? hd)) A' E' s₂ dp kb hn) (fun y s3 r => ⟨⟨d, hd, r.1⟩, r.2⟩) fun _ _ e => e
    · intro g h5 tk5 gs bare ag sz5 k5 W5 at0
      simp only [GxR.passing_true, List.length_range] at W5
      have n5 : its.toArray.size = ds.length := by rw [List.size_toArray, len]
      rw [n5] at W5 at0
      refine hQ ds H1 g _ q1 ⟨_, _, _, _, _, W5.in4_1, at0, ?_, fun s' hm => ?_⟩
      · rintro j y sj Qj Ej ⟨i, hij, d, hd, rfl⟩ hQj
        obtain ⟨hj, ej⟩ := List.getElem?_eq_some_iff.mp hij
        rw [List.getElem_range] at ej
        subst ej
        refine wpAny_truthy_bool ?_
        have e : trD pb ds j = pb d := by unfold trD; rw [hd]
        rw [← e]
        exact hQj
      · have apart : ∀ b u, s1.heap.get? b = some u → b ∉ h3.objs.size :: [s1.heap.objs.size] := fun b u e m => by
          have l := Heap.lt_size e
          rcases List.mem_cons.mp m with z | m
          · rw [z] at l
            have : (h3.objs.size : Nat) < s1.heap.objs.size := l
            omega
          · rw [List.mem_singleton.mp m] at l
            exact Nat.lt_irrefl _ l
        have J := GxR.inv_tab (more := more) (h' := s'.heap) (g' := s'.gens) (d' := s'.drawn) (t' := s'.toks) I1 hP (fun b u n e => hm.heap b u (apart b u e) (k5 b u (keep b u n e)))
          (hm.heap P _ (apart P _ atP) (k5 P _ atP3)) (AllBare.movedS (I1.bare.push bare) hm)
        rw [GxR.sh_eta s1 s' hm.os] at J
        exact ⟨upd H1 P (.tbl (ps ++ more)), ⟨⟨ps ++ more, upd_same, ht3⟩, fun b n => upd_ne n⟩, J⟩
  refine ⟨lim2, ?_⟩
  cases hf : codeAmong gpos ps.toList with
  | some cv => exact wpAny_genexprCode_hit hcode (cd.code atP2 ht) hf (go cv _ s1.toks ps (Heap.ExtBut.refl _ _) (Nat.le_refl _) atP2 ⟨#[], by simp⟩ ht)
  | none =>
    refine wpAny_genexprCodeX hcode (cd.code atP2 ht) (cd.tab atP2) hf ?_
    intro c' h' tk hx hge hlt hco' _ htab' _
    obtain ⟨o1, vs, f1, tf, fl, tg, inF, tx, tt, op, _, _, _, _, _, _, _, _, _, htr, _⟩ := hco'
    exact go _ h' tk _ hx (Nat.le_trans hge (Nat.le_of_lt hlt)) htab'.2 ⟨_, rfl⟩ htr
def tAnyL (K : PySem.W.Frag) (P : Addr) (ok : PyData → Prop) (pb : PyData → Bool) (te : TE) : TE := fun σ H Q => te σ H fun v H1 => ∃ (a : Addr) (xs : List V) (ds : List PyData) (O : List Addr), v = .ref a ∧ SqL K H1 a xs ∧ DxAll K (hid O H1) xs ds ∧ (∀ d ∈ ds, ok d) ∧ GxR.TabG H1 P ∧
  ∀ H2, GxR.Tabbed P H1 H2 → Q (.bl (ds.any pb)) H2
theorem pe_anyL {c P : Addr} {elt iter : Expr} {x : Str} {px p pos gpos : Pos} {scope : Scope} {ok : PyData → Prop} {pb : PyData → Bool} {te : TE} {k : Nat}
    (hr : Room k X.A) (hg : Gl X "any") (hm : X.mg "any" = none) (hb : bootBuiltins "any" = some (.builtin "any")) (TB : GxR.TabB X.base X.mg c P) (hcode : X.env.code = .ref c) (S : GxR.GenS X.env scope x) (hi : PE X iter te) (hel : EltF X scope x elt ok pb)
    (hs : ∀ v, genFold iter X.env v = pure v)
    (he : starEach [.GeneratorExp elt [⟨.Name x px, iter, [], 0⟩] scope gpos] X.env = (false, eval (.GeneratorExp elt [⟨.Name x px, iter, [], 0⟩] scope gpos) X.env) :: starEach [] X.env := by rfl) :
    PE X (.Call (.Name "any" p) [.GeneratorExp elt [⟨.Name x px, iter, [], 0⟩] scope gpos] [] pos) (tAnyL X.K P ok pb te) := by
  constructor
  intro pins s σ H Q I h
  refine wpAny_Call_Name_kw (ld_blt I hg hm hb ?_)
  refine PyProof.Rows.callWith_builtin1 ?_ he (by rfl)
  rw [he]
  show wpAny _ _ (spliced ((false, eval (.GeneratorExp elt [⟨.Name x px, iter, [], 0⟩] scope gpos) X.env) :: backTo pos (starEach [] X.env))) _ _ s
  refine Calls.spliced_cons (gen_lst (R := fun ds H1 => ∀ H2, GxR.Tabbed P H1 H2 → Q (.bl (ds.any pb)) H2) hr TB hcode S hi hel hs I h ?_)
  rintro ds H1 g s5 hR ⟨fp, wr, G, F, St, W, hst, htr, hI⟩
  refine Calls.spliced_nil (call_any_walkS (W.self 0 _ _ _ hst ⟨g, fp, wr, G, _, F, St, _, rfl, W, hst, htr, fun s' hmv => ?_⟩))
  obtain ⟨H2, hT, J⟩ := hI s' hmv
  rw [any_trD]
  exact ⟨.bl _, H2, J, rfl, hR H2 hT⟩
end
theorem shLstD {K : PySem.W.Frag} {S O : List Addr} {H : Hp} {x : V} {ds : List PyData} (h : DM .sh K S O H x (.list ds)) : ∃ a xs, x = .ref a ∧ SqL K H a xs ∧ DxAll K (hid O H) xs ds := by
  obtain ⟨a, xs, e, h1, h2⟩ := h
  exact ⟨a, xs, e, .inl (.inl (hid_some h1).2), h2⟩
section
variable {X : Cx} {elt iter : Expr} {x : Str} {px p pos gpos : Pos} {scope : Scope} {ok : PyData → Prop} {pb : PyData → Bool} {fd : FuncData} {c P : Addr} {k : Nat} {w : WD}
def wAnyL (ok : PyData → Prop) (f : List PyData → Bool) (w : WD) : WR := fun sd Q => w sd fun d => match d with
  | .list ds => (∀ d ∈ ds, ok d) ∧ Q (.va (.bool (f ds)))
  | _ => False
theorem wAnyL_mo {ok : PyData → Prop} {f : List PyData → Bool} (h : Ev .sh X iter w) : ∀ sd (Q Q' : RV → Prop), (∀ r, Q r → Q' r) → wAnyL ok f w sd Q → wAnyL ok f w sd Q' := fun sd Q Q' k q => h.mo _ _ _ (fun d z => by
  cases d with
  | list ds => exact ⟨z.1, k _ z.2⟩
  | _ => exact z.elim) q
theorem wAnyL_run {f : List PyData → Bool} (h : Ev .sh X iter w) (m : P ∈ (Tb.Ts : List Addr)) {σ : L2.St} {H : Hp} {Q : VK} (q : tR X.K (wAnyL ok f w) σ H Q) :
    tM .sh X.K w σ H fun v H1 => ∃ (a : Addr) (xs : List V) (ds : List PyData) (O : List Addr), v = .ref a ∧ SqL X.K H1 a xs ∧ DxAll X.K (hid O H1) xs ds ∧ (∀ d ∈ ds, ok d) ∧ GxR.TabG H1 P ∧ ∀ H2, GxR.Tabbed P H1 H2 → Q (.bl (f ds)) H2 := by
  obtain ⟨c, sd, os, hk, r, q⟩ := q
  refine ⟨c, sd, os, hk, r, h.mo _ _ _ (fun d k v H1 x1 dm => ?_) q⟩
  cases d with
  | list ds =>
    obtain ⟨a, us, rfl, h1, h2⟩ := shLstD dm
    have r1 := r.grow x1
    exact ⟨a, us, ds, OO c os, rfl, h1, h2, k.1, r1.srcNow.2 P m, fun H2 ht => k.2 _ H2 (x1.trans (ext_tab r1.srcNow m ht)) (.bl _)⟩
  | _ => exact k.elim
theorem evr_anyL (G : GenT X.mg X.base fd c P) (hcode : X.env.code = fd.code) (hr : RmG k X.A) (hm : X.mg "any" = none) (hb : bootBuiltins "any" = some (.builtin "any")) (hgo : genOk scope x = true) (h : Ev .sh X iter w) (hel : EltF X scope x elt ok pb)
    (hg : Gl X "any" := by rfl) (hs : ∀ v, genFold iter X.env v = pure v := by intro _; rfl)
    (he : starEach [.GeneratorExp elt [⟨.Name x px, iter, [], 0⟩] scope gpos] X.env = (false, eval (.GeneratorExp elt [⟨.Name x px, iter, [], 0⟩] scope gpos) X.env) :: starEach [] X.env := by rfl) :
    EvR X (.Call (.Name "any" p) [.GeneratorExp elt [⟨.Name x px, iter, [], 0⟩] scope gpos] [] pos) (wAnyL ok (fun ds => ds.any pb) w) where
  pe := PE.weak (pe_anyL hr.rm hg hm hb G.tb (hcode.trans G.hc) (gens_of hgo) h.pe hel hs he) fun σ H Q q => wAnyL_run h G.mem q
  mo := wAnyL_mo h
/-- a tuple's texts, as they stand -/
def strsOf : List Expr → Option (List Str)
  | [] => some []
  | .Constant (.str x) _ _ :: r => (strsOf r).map (x :: ·)
  | _ => none
theorem strs_run {prog : Program} {w : World} {A : Around} {E : Value → Shared → Prop} {env : Env} {pos : Pos} : ∀ (es : List Expr) (ss : List Str), strsOf es = some ss → ∀ s : Shared, wpAny (model prog w) A (spliced (backTo pos (starEach es env))) (fun vs s1 => StrsAre vs ss ∧ Keeps s s1) E s
  | [], ss, h, s => by
    cases h
    exact Calls.spliced_nil ⟨.nil, GxR.keeps_refl s⟩
  | .Constant (.str x) k p :: r, ss, h, s => by
    obtain ⟨ss', h', rfl⟩ := Option.map_eq_some_iff.mp (show (strsOf r).map (x :: ·) = some ss from h)
    refine wpAny_items_cons (wpAny_Constant_str ?_) rfl
    exact wpAny_mono (strs_run r ss' h' _) (fun vs s2 q => ⟨.cons x _ q.1, keeps_tr (GxR.keeps_tok s _) q.2⟩) fun _ _ z => z
/-- a thing's first thing, where that is a text -/
def hdS : PyData → Option Str
  | .str y => (y.cps[0]?).map fun c => ⟨#[c]⟩
  | .tuple (.str z :: _) => some z
  | _ => none
def hdIn (ss : List Str) (d : PyData) : Bool := match hdS d with
  | some z => ss.any (· == z)
  | none => false
theorem elt_hdIn {es : List Expr} {ss : List Str} {p1 p2 p3 p4 p5 : Pos} {k1 k2 : Nat} (hss : strsOf es = some ss) (hn : es.length ≤ sizeLine) (hx : scope.names.lookup x = some .local) (hdx : (x == ("__debug__" : Str)) = false := by decide) (hmk : behindInMarks .In (.Tuple es k2 p4) = false := by with_unfolding_all rfl) :
    EltF X scope x (.Compare (.Subscript (.Name x p1) (.Constant (.int 0) k1 p2) p3) [.In] [.Tuple es k2 p4] p5) (fun d => (hdS d).isSome = true) (hdIn ss) := fun B env m d u M hB qv hsc hm kd hok A E s dp kb hns => by
  obtain ⟨z, hz⟩ := Option.isSome_iff_exists.mp hok
  have e : hdIn ss d = ss.any (· == z) := by unfold hdIn; rw [hz]
  rw [e]
  -- the texts, made anew, and the test
  have fin : ∀ (s1 : Shared) (t : Tok), Keeps s s1 → wpAny (model X.prog X.w) A (eval (.Tuple es k2 p4) env) (fun b s2 => wpAny (model X.prog X.w) A (compareOp .In (.str z t) b) (fun y s3 => y = .bool (ss.any (· == z)) ∧ Keeps s s3) E s2) E s1 := fun s1 t k => by
    refine wpAny_Tuple (wpAny_mono (strs_run es ss hss s1) (fun vs s2 q => ?_) fun _ _ z => z)
    obtain ⟨h1, h2⟩ := q
    have k2 := keeps_tr k h2
    have hl : vs.length = es.length := by
      have : ∀ (es : List Expr) (ss : List Str), strsOf es = some ss → ss.length = es.length := by
        intro es
        induction es with
        | nil => intro ss h; cases h; rfl
        | cons e es ih =>
          intro ss h
          unfold strsOf at h
          split at h
          · rename_i e'; cases e'
          · rename_i x k p r e'
            cases e'
            obtain ⟨ss', h', rfl⟩ := Option.map_eq_some_iff.mp h
            rw [List.length_cons, List.length_cons, ih _ h']
          · cases h
      have h3 : ∀ {vs : List Value} {ys : List Str}, StrsAre vs ys → vs.length = ys.length := by
        intro vs ys h
        induction h with
        | nil => rfl
        | cons y t h ih => rw [List.length_cons, List.length_cons, ih]
      rw [h3 h1, this es ss hss]
    refine ⟨by rw [hl]; exact hn, ?_⟩
    refine in_tuple_strs (items := vs.toArray) ⟨_, Heap.get?_push_size _ rfl, rfl, _, rfl⟩ (by simpa using h1) ⟨rfl, ?_⟩
    exact keeps_tr k2 ⟨_, _, rfl, fun b o e => Heap.get?_push_of_some _ e⟩
  refine wpAny_Compare1 ?_ hmk
  refine wpAny_Subscript_Constant_late (wpAny_mono (qe_loc qv (by show env.scope.names.lookup x = _; rw [hsc]; exact hx) hm hdx A E s dp kb hns) (fun o s1 r => ?_) fun _ _ z => z)
  obtain ⟨rfl, k1⟩ := r
  refine wpAny_Constant_int ?_
  have k2 := keeps_tr k1 (GxR.keeps_tok s1 (s1.toks + 1))
  have kb2 := kb.go k2
  cases d with
  | str y =>
    obtain ⟨c, hc, rfl⟩ := Option.map_eq_some_iff.mp (show (y.cps[0]?).map (fun c => (⟨#[c]⟩ : Str)) = some z from hz)
    obtain ⟨t, rfl⟩ := (show ∃ t, o = .str y t from kd.1)
    refine ⟨"str", _, slot_str_getitem.lookup, rfl, getItem_str (c := c) (by decide) ?_ ?_⟩
    · have l0 : 0 < y.length := by
        have := (Array.getElem?_eq_some_iff.mp hc).1
        exact this
      have : seqIndex? 0 y.length = some 0 := by
        rw [seqIndex_of (by omega) (by omega)]; rfl
      rw [this]
      exact hc
    · exact fin _ _ (keeps_tr k2 (GxR.keeps_tok _ _))
  | tuple ds =>
    cases ds with
    | nil => cases hz
    | cons d0 ds =>
      cases d0 with
      | str z' =>
        cases (show some z' = some z from hz)
        obtain ⟨a, o', its, n, v0, rfl, h1, h2, h3, h4, h5⟩ := kd.2
        obtain ⟨t, rfl⟩ := (show ∃ t, v0 = .str z t from h5)
        have l0 : 0 < its.length := (List.getElem?_eq_some_iff.mp h4).1
        have T : IsTup s1.heap a its.toArray := ⟨o', (kb.go k1) a o' h1, h2, n, h3⟩
        refine ⟨"tuple", _, slot_tuple_getitem.lookup, T.typeIs, getItem_tuple (j := 0) T (by decide) (by decide) ?_ (by simpa using h4) (fin _ _ k2)⟩
        rw [List.size_toArray, seqIndex_of (by omega) (by omega)]
        rfl
      | _ => cases hz
  | _ => cases hz
end
end DL

set_option Elab.async false
set_option linter.all false
set_option maxRecDepth 100000
set_option maxHeartbeats 4000000
namespace K17
open PySem PySem.Spec PyProof.Rows L2 DL
variable [Tb]
local macro_rules | `(tactic| walk_at "rw") => `(tactic| simp only [d01, d0m, dm0, d10, Rw.toD, rdIn, wds, flatD, List.all_cons, List.all_nil, dw, Bool.true_or, Bool.false_or, Bool.or_false, Bool.or_true, Bool.true_and, Bool.and_true, Bool.false_and, Bool.and_false, Bool.not_true, Bool.not_false, decide_true, decide_false, true_and, and_true, if_true, if_false, Bool.false_eq_true, reduceIte, Nat.zero_add, Nat.reduceAdd, ite_self, wJR, wJL, wJM, wRJ, wRL, wRM, wLJ, wLR, wLM, wMJ, wMR, wML])
local macro_rules | `(tactic| walk_at "st") => `(tactic| simp only [wBo, w2, rdEq2, wNameS, wName, wC, wPart, startD, List.map_cons, List.map_nil, List.cons_append, List.nil_append, getS, AV.sv, rd1, List.length_cons, List.length_nil, List.replicate, endE, frzD, List.set, wOr, wAnd, wNot, wTru, wIs, wIf, wAndV, wOrV, wNotV, wIxC, wNeg, dat_va, dat_fr, sv_va, sv_fr, gtName, gtCons, gtNil, gtTup, wFrz, wBack, wIfS, wAugI, wPar3, wIsN, if_true, if_false, Bool.false_eq_true, Bool.not_true, Bool.not_false, decide_true, decide_false, Nat.sub_zero, Nat.succ_sub_succ_eq_sub, ite_true, ite_false, reduceIte, true_and, and_true, Nat.zero_add, Nat.reduceAdd, qisStrD_str, qisStrD_tup, qisStrD_lst, qisStrD_int, qisStrD_bl, qisStrD_non, qisStrD_dct, qisTupD_str, qisTupD_tup, qisTupD_lst, qisTupD_int, qisTupD_bl, qisTupD_non, qisTupD_dct, qisLstD_str, qisLstD_tup, qisLstD_lst, qisLstD_int, qisLstD_bl, qisLstD_non, qisLstD_dct, qisDctD_str, qisDctD_tup, qisDctD_lst, qisDctD_int, qisDctD_bl, qisDctD_non, qisDctD_dct, qisBooD_str, qisBooD_tup, qisBooD_lst, qisBooD_int, qisBooD_bl, qisBooD_non, qisBooD_dct, qisIntD_str, qisIntD_tup, qisIntD_lst, qisIntD_int, qisIntD_bl, qisIntD_non, qisIntD_dct, qAddI, qAddS, qAddT, qAddL, qInt, qSlT, qSlL, qSlS, qEqI, qEqS, qEqB, qEqN, qEqT, qEqL, qIxT0, qIxT1, qIxT2, qIxL0, qIxL1, qLenT, qLenL, qLenS, qTupT, qTupL, qLstT, qLstL, qIt, qItL, qIntI, qBl, qTrT, qTrL, qTrI, qTrN, qNoN, qNoT, qNoL, qNoI, qNoS])
local macro_rules | `(tactic| walk_at "run") => `(tactic| ((try walk_at "rw"); (try walk_at "st"); (try walk_at "rw")))
local macro_rules | `(tactic| walk_at "dl") => `(tactic| simp only [wBo, w2, rdEq2, dEq, wNameS, wName, wC, startD, List.map_cons, List.map_nil, List.cons_append, List.nil_append, getS, AV.sv, rd1, List.length_cons, List.length_nil, List.replicate, endE, frzD, wBack, List.set, wOr, wAnd, wNot, wTru, wIs, wIf, wAndV, wOrV, wNotV, wIxC, ixC, nthD, dLen, dTuple, dList, dat_va, dat_fr, sv_va, sv_fr, gtName, gtCons, gtNil, gtTup, truD, wFrz, wIfS, if_true, if_false, Bool.false_eq_true, isStrD, isTupD, isLstD, isBooD, isIntD, isDctD, Bool.not_true, Bool.not_false, decide_true, decide_false, Nat.sub_zero, Nat.succ_sub_succ_eq_sub, ite_true, ite_false, reduceIte, true_and, and_true])

def topS (i : Nat) : Stmt := PySem.Challenge.pw_everrows_k17_how_many.main.body.getD i (.Pass ⟨0, 0, 0, 0⟩)
abbrev s_is_number : Stmt := topS 1
theorem sc_is_number : FnScope ["value"] ["value"] (defScope s_is_number) := ⟨rfl, rfl, rfl, by decide +kernel, rfl, by decide +kernel, by decide +kernel⟩
abbrev s_inner_first : Stmt := topS 2
theorem sc_inner_first : FnScope ["whole", "parts_of", "found", "waiting", "part"] ["whole", "parts_of"] (defScope s_inner_first) := ⟨rfl, rfl, rfl, by decide +kernel, rfl, by decide +kernel, by decide +kernel⟩
abbrev s_parts_of : Stmt := topS 4
theorem sc_parts_of : FnScope ["row", "word", "told"] ["row"] (defScope s_parts_of) := ⟨rfl, rfl, rfl, by decide +kernel, rfl, by decide +kernel, by decide +kernel⟩
abbrev s_part_at : Stmt := topS 6
theorem sc_part_at : FnScope ["dealing", "numbers", "word", "told"] ["dealing", "numbers"] (defScope s_part_at) := ⟨rfl, rfl, rfl, by decide +kernel, rfl, by decide +kernel, by decide +kernel⟩
abbrev s__numbers_at : Stmt := topS 7
theorem sc__numbers_at : FnScope ["dealing", "place", "at"] ["dealing", "place", "at"] (defScope s__numbers_at) := ⟨rfl, rfl, rfl, by decide +kernel, rfl, by decide +kernel, by decide +kernel⟩
abbrev s__tell_a_part : Stmt := topS 8
theorem sc__tell_a_part : FnScope ["dealing", "numbers", "number"] ["dealing", "numbers"] (defScope s__tell_a_part) := ⟨rfl, rfl, rfl, by decide +kernel, rfl, by decide +kernel, by decide +kernel⟩
abbrev s_way_to : Stmt := topS 9
theorem sc_way_to : FnScope ["row", "place", "steps", "at", "numbers"] ["row", "place"] (defScope s_way_to) := ⟨rfl, rfl, rfl, by decide +kernel, rfl, by decide +kernel, by decide +kernel⟩
abbrev s_parting : Stmt := topS 10
theorem sc_parting : FnScope ["row", "one", "other", "dealing", "mine", "at", "_", "yours"] ["row", "one", "other"] (defScope s_parting) := ⟨rfl, rfl, rfl, by decide +kernel, rfl, by decide +kernel, by decide +kernel⟩
abbrev s_comes_ahead : Stmt := topS 11
theorem sc_comes_ahead : FnScope ["row", "one", "other", "split", "dealing", "mine", "yours", "_"] ["row", "one", "other"] (defScope s_comes_ahead) := ⟨rfl, rfl, rfl, by decide +kernel, rfl, by decide +kernel, by decide +kernel⟩
abbrev s__met_first : Stmt := topS 12
theorem sc__met_first : FnScope ["row", "side", "place", "k"] ["row", "side"] (defScope s__met_first) := ⟨rfl, rfl, rfl, by decide +kernel, rfl, by decide +kernel, by decide +kernel⟩
abbrev s_next_place : Stmt := topS 13
theorem sc_next_place : FnScope ["row", "place"] ["row", "place"] (defScope s_next_place) := ⟨rfl, rfl, rfl, by decide +kernel, rfl, by decide +kernel, by decide +kernel⟩
abbrev s__neighbour : Stmt := topS 14
theorem sc__neighbour : FnScope ["row", "place", "side", "dealing", "numbers", "at", "counted_on", "beside", "met"] ["row", "place", "side"] (defScope s__neighbour) := ⟨rfl, rfl, rfl, by decide +kernel, rfl, by decide +kernel, by decide +kernel⟩
abbrev s_count : Stmt := topS 15
theorem sc_count : FnScope ["row", "parts", "part"] ["row"] (defScope s_count) := ⟨rfl, rfl, rfl, by decide +kernel, rfl, by decide +kernel, by decide +kernel⟩
abbrev s_laid : Stmt := topS 17
theorem sc_laid : FnScope ["rows", "found", "waiting", "row"] ["rows"] (defScope s_laid) := ⟨rfl, rfl, rfl, by decide +kernel, rfl, by decide +kernel, by decide +kernel⟩
abbrev s_laid_of : Stmt := topS 18
theorem sc_laid_of : FnScope ["rows", "row"] ["rows"] (defScope s_laid_of) := ⟨rfl, rfl, rfl, by decide +kernel, rfl, by decide +kernel, by decide +kernel⟩
abbrev s_ahead : Stmt := topS 19
theorem sc_ahead : FnScope ["row", "place", "found", "dealing", "numbers", "_"] ["row", "place"] (defScope s_ahead) := ⟨rfl, rfl, rfl, by decide +kernel, rfl, by decide +kernel, by decide +kernel⟩
abbrev s_behind : Stmt := topS 20
theorem sc_behind : FnScope ["row", "place", "found", "dealing", "numbers", "_"] ["row", "place"] (defScope s_behind) := ⟨rfl, rfl, rfl, by decide +kernel, rfl, by decide +kernel, by decide +kernel⟩
abbrev s__parts_ahead : Stmt := topS 21
theorem sc__parts_ahead : FnScope ["dealing", "k", "word", "told"] ["dealing", "k"] (defScope s__parts_ahead) := ⟨rfl, rfl, rfl, by decide +kernel, rfl, by decide +kernel, by decide +kernel⟩
abbrev s__parts_behind : Stmt := topS 22
theorem sc__parts_behind : FnScope ["dealing", "k", "word", "told"] ["dealing", "k"] (defScope s__parts_behind) := ⟨rfl, rfl, rfl, by decide +kernel, rfl, by decide +kernel, by decide +kernel⟩
abbrev s_between : Stmt := topS 23
theorem sc_between : FnScope ["row", "one", "other", "dealing", "mine", "yours", "at", "inner"] ["row", "one", "other"] (defScope s_between) := ⟨rfl, rfl, rfl, by decide +kernel, rfl, by decide +kernel, by decide +kernel⟩
abbrev s__parts_between : Stmt := topS 24
theorem sc__parts_between : FnScope ["dealing", "k", "j", "word", "told"] ["dealing", "k", "j"] (defScope s__parts_between) := ⟨rfl, rfl, rfl, by decide +kernel, rfl, by decide +kernel, by decide +kernel⟩
abbrev s_many_between : Stmt := topS 25
theorem sc_many_between : FnScope ["row", "one", "other", "found"] ["row", "one", "other"] (defScope s_many_between) := ⟨rfl, rfl, rfl, by decide +kernel, rfl, by decide +kernel, by decide +kernel⟩
abbrev s_are_near : Stmt := topS 26
theorem sc_are_near : FnScope ["row", "one", "other", "first", "second"] ["row", "one", "other"] (defScope s_are_near) := ⟨rfl, rfl, rfl, by decide +kernel, rfl, by decide +kernel, by decide +kernel⟩
abbrev s__law_open_cells : Stmt := topS 28
theorem sc__law_open_cells : FnScope ["_law_script", "_law_stirred", "_law_cell", "_law_cells"] ["_law_script"] (defScope s__law_open_cells) := ⟨rfl, rfl, rfl, by decide +kernel, rfl, by decide +kernel, by decide +kernel⟩
abbrev s__law_pick : Stmt := topS 29
theorem sc__law_pick : FnScope ["_law_source", "_law_most", "_law_cells", "_law_others", "_law_lap", "_law_stirred"] ["_law_source", "_law_most"] (defScope s__law_pick) := ⟨rfl, rfl, rfl, by decide +kernel, rfl, by decide +kernel, by decide +kernel⟩
abbrev s__law_draw_row : Stmt := topS 30
theorem sc__law_draw_row : FnScope ["_law_source", "_law_letters", "_law_most", "_law_road", "_law_many_here", "_law_k"] ["_law_source", "_law_letters", "_law_most"] (defScope s__law_draw_row) := ⟨rfl, rfl, rfl, by decide +kernel, rfl, by decide +kernel, by decide +kernel⟩
abbrev s__law_few : Stmt := topS 31
theorem sc__law_few : FnScope ["_law_source", "_law_most", "_law_road", "_law_row", "_law_lap", "_law_parts", "_law_letter"] ["_law_source", "_law_most"] (defScope s__law_few) := ⟨rfl, rfl, rfl, by decide +kernel, rfl, by decide +kernel, by decide +kernel⟩
abbrev s__law_size : Stmt := topS 32
theorem sc__law_size : FnScope ["_law_row", "_law_part"] ["_law_row"] (defScope s__law_size) := ⟨rfl, rfl, rfl, by decide +kernel, rfl, by decide +kernel, by decide +kernel⟩
abbrev s__law_copy : Stmt := topS 33
theorem sc__law_copy : FnScope ["_law_row", "_law_numbers"] ["_law_row", "_law_numbers"] (defScope s__law_copy) := ⟨rfl, rfl, rfl, by decide +kernel, rfl, by decide +kernel, by decide +kernel⟩
abbrev s__law_draw_address : Stmt := topS 34
theorem sc__law_draw_address : FnScope ["_law_source", "_law_row", "_law_found", "_law_key", "_law_n"] ["_law_source", "_law_row"] (defScope s__law_draw_address) := ⟨rfl, rfl, rfl, by decide +kernel, rfl, by decide +kernel, by decide +kernel⟩
abbrev s__law_near_place : Stmt := topS 35
theorem sc__law_near_place : FnScope ["_law_source", "_law_row", "_law_place", "_law_found", "_law_here", "_law_spot", "_law_later", "_law_many_here"] ["_law_source", "_law_row", "_law_place"] (defScope s__law_near_place) := ⟨rfl, rfl, rfl, by decide +kernel, rfl, by decide +kernel, by decide +kernel⟩
abbrev s__law_levels : Stmt := topS 36
theorem sc__law_levels : FnScope ["_law_row", "_law_place", "_law_found", "_law_part", "_law_many_here"] ["_law_row", "_law_place"] (defScope s__law_levels) := ⟨rfl, rfl, rfl, by decide +kernel, rfl, by decide +kernel, by decide +kernel⟩
abbrev s__law_many : Stmt := topS 37
theorem sc__law_many : FnScope ["_law_row", "_law_some", "_law_part"] ["_law_row"] (defScope s__law_many) := ⟨rfl, rfl, rfl, by decide +kernel, rfl, by decide +kernel, by decide +kernel⟩
abbrev s__law_added : Stmt := topS 38
theorem sc__law_added : FnScope ["_law_numbers"] ["_law_numbers"] (defScope s__law_added) := ⟨rfl, rfl, rfl, by decide +kernel, rfl, by decide +kernel, by decide +kernel⟩
abbrev s__law_many_beyond : Stmt := topS 39
theorem sc__law_many_beyond : FnScope ["_law_row", "_law_place", "_law_side", "_law_found", "_law_here", "_law_key", "_law_some", "_law_part", "_law_one"] ["_law_row", "_law_place", "_law_side"] (defScope s__law_many_beyond) := ⟨rfl, rfl, rfl, by decide +kernel, rfl, by decide +kernel, by decide +kernel⟩
abbrev s__law_many_inner : Stmt := topS 40
theorem sc__law_many_inner : FnScope ["_law_row", "_law_one", "_law_other", "_law_part", "_law_many_here", "_law_mine", "_law_yours", "_law_found", "_law_here", "_law_count_one"] ["_law_row", "_law_one", "_law_other"] (defScope s__law_many_inner) := ⟨rfl, rfl, rfl, by decide +kernel, rfl, by decide +kernel, by decide +kernel⟩
abbrev s_law : Stmt := topS 41
theorem sc_law : FnScope ["_law_script", "_law_source", "_law_lap", "_law_row", "_law_first", "_law_held", "_law_turn", "_law_other", "_law_one", "_law_late", "_law_due", "_law_place", "_law_later", "_law_far", "_law_told"] ["_law_script"] (defScope s_law) := ⟨rfl, rfl, rfl, by decide +kernel, rfl, by decide +kernel, by decide +kernel⟩
/-- what stands at the top of the module -/
structure Top (K : PySem.W.Frag) (mg : Str → Option Value) (base : Heap) where
  f_is_number : Addr
  d_is_number : FuncData
  F_is_number : Fun K "is_number" "is_number" s_is_number f_is_number d_is_number
  C_is_number : Cal K mg "is_number" f_is_number d_is_number ["value"]
  f_inner_first : Addr
  d_inner_first : FuncData
  F_inner_first : Fun K "inner_first" "inner_first" s_inner_first f_inner_first d_inner_first
  C_inner_first : Cal K mg "inner_first" f_inner_first d_inner_first ["whole", "parts_of"]
  f_parts_of : Addr
  d_parts_of : FuncData
  F_parts_of : Fun K "parts_of" "parts_of" s_parts_of f_parts_of d_parts_of
  C_parts_of : Cal K mg "parts_of" f_parts_of d_parts_of ["row"]
  f_part_at : Addr
  d_part_at : FuncData
  F_part_at : Fun K "part_at" "part_at" s_part_at f_part_at d_part_at
  C_part_at : Cal K mg "part_at" f_part_at d_part_at ["dealing", "numbers"]
  f__numbers_at : Addr
  d__numbers_at : FuncData
  F__numbers_at : Fun K "_numbers_at" "_numbers_at" s__numbers_at f__numbers_at d__numbers_at
  C__numbers_at : Cal K mg "_numbers_at" f__numbers_at d__numbers_at ["dealing", "place", "at"]
  f__tell_a_part : Addr
  d__tell_a_part : FuncData
  F__tell_a_part : Fun K "_tell_a_part" "_tell_a_part" s__tell_a_part f__tell_a_part d__tell_a_part
  C__tell_a_part : Cal K mg "_tell_a_part" f__tell_a_part d__tell_a_part ["dealing", "numbers"]
  t__tell_a_part : Addr
  p__tell_a_part : Addr
  G__tell_a_part : GenT mg base d__tell_a_part t__tell_a_part p__tell_a_part
  f_way_to : Addr
  d_way_to : FuncData
  F_way_to : Fun K "way_to" "way_to" s_way_to f_way_to d_way_to
  C_way_to : Cal K mg "way_to" f_way_to d_way_to ["row", "place"]
  f_parting : Addr
  d_parting : FuncData
  F_parting : Fun K "parting" "parting" s_parting f_parting d_parting
  C_parting : Cal K mg "parting" f_parting d_parting ["row", "one", "other"]
  f_comes_ahead : Addr
  d_comes_ahead : FuncData
  F_comes_ahead : Fun K "comes_ahead" "comes_ahead" s_comes_ahead f_comes_ahead d_comes_ahead
  C_comes_ahead : Cal K mg "comes_ahead" f_comes_ahead d_comes_ahead ["row", "one", "other"]
  f__met_first : Addr
  d__met_first : FuncData
  F__met_first : Fun K "_met_first" "_met_first" s__met_first f__met_first d__met_first
  C__met_first : Cal K mg "_met_first" f__met_first d__met_first ["row", "side"]
  f_next_place : Addr
  d_next_place : FuncData
  F_next_place : Fun K "next_place" "next_place" s_next_place f_next_place d_next_place
  C_next_place : Cal K mg "next_place" f_next_place d_next_place ["row", "place"]
  f__neighbour : Addr
  d__neighbour : FuncData
  F__neighbour : Fun K "_neighbour" "_neighbour" s__neighbour f__neighbour d__neighbour
  C__neighbour : Cal K mg "_neighbour" f__neighbour d__neighbour ["row", "place", "side"]
  f_count : Addr
  d_count : FuncData
  F_count : Fun K "count" "count" s_count f_count d_count
  C_count : Cal K mg "count" f_count d_count ["row"]
  t_count : Addr
  p_count : Addr
  G_count : GenT mg base d_count t_count p_count
  f_laid : Addr
  d_laid : FuncData
  F_laid : Fun K "laid" "laid" s_laid f_laid d_laid
  C_laid : Cal K mg "laid" f_laid d_laid ["rows"]
  f_laid_of : Addr
  d_laid_of : FuncData
  F_laid_of : Fun K "laid_of" "laid_of" s_laid_of f_laid_of d_laid_of
  C_laid_of : Cal K mg "laid_of" f_laid_of d_laid_of ["rows"]
  f_ahead : Addr
  d_ahead : FuncData
  F_ahead : Fun K "ahead" "ahead" s_ahead f_ahead d_ahead
  C_ahead : Cal K mg "ahead" f_ahead d_ahead ["row", "place"]
  f_behind : Addr
  d_behind : FuncData
  F_behind : Fun K "behind" "behind" s_behind f_behind d_behind
  C_behind : Cal K mg "behind" f_behind d_behind ["row", "place"]
  f__parts_ahead : Addr
  d__parts_ahead : FuncData
  F__parts_ahead : Fun K "_parts_ahead" "_parts_ahead" s__parts_ahead f__parts_ahead d__parts_ahead
  C__parts_ahead : Cal K mg "_parts_ahead" f__parts_ahead d__parts_ahead ["dealing", "k"]
  f__parts_behind : Addr
  d__parts_behind : FuncData
  F__parts_behind : Fun K "_parts_behind" "_parts_behind" s__parts_behind f__parts_behind d__parts_behind
  C__parts_behind : Cal K mg "_parts_behind" f__parts_behind d__parts_behind ["dealing", "k"]
  f_between : Addr
  d_between : FuncData
  F_between : Fun K "between" "between" s_between f_between d_between
  C_between : Cal K mg "between" f_between d_between ["row", "one", "other"]
  f__parts_between : Addr
  d__parts_between : FuncData
  F__parts_between : Fun K "_parts_between" "_parts_between" s__parts_between f__parts_between d__parts_between
  C__parts_between : Cal K mg "_parts_between" f__parts_between d__parts_between ["dealing", "k", "j"]
  f_many_between : Addr
  d_many_between : FuncData
  F_many_between : Fun K "many_between" "many_between" s_many_between f_many_between d_many_between
  C_many_between : Cal K mg "many_between" f_many_between d_many_between ["row", "one", "other"]
  f_are_near : Addr
  d_are_near : FuncData
  F_are_near : Fun K "are_near" "are_near" s_are_near f_are_near d_are_near
  C_are_near : Cal K mg "are_near" f_are_near d_are_near ["row", "one", "other"]
  f__law_open_cells : Addr
  d__law_open_cells : FuncData
  F__law_open_cells : Fun K "_law_open_cells" "_law_open_cells" s__law_open_cells f__law_open_cells d__law_open_cells
  C__law_open_cells : Cal K mg "_law_open_cells" f__law_open_cells d__law_open_cells ["_law_script"]
  f__law_pick : Addr
  d__law_pick : FuncData
  F__law_pick : Fun K "_law_pick" "_law_pick" s__law_pick f__law_pick d__law_pick
  C__law_pick : Cal K mg "_law_pick" f__law_pick d__law_pick ["_law_source", "_law_most"]
  f__law_draw_row : Addr
  d__law_draw_row : FuncData
  F__law_draw_row : Fun K "_law_draw_row" "_law_draw_row" s__law_draw_row f__law_draw_row d__law_draw_row
  C__law_draw_row : Cal K mg "_law_draw_row" f__law_draw_row d__law_draw_row ["_law_source", "_law_letters", "_law_most"]
  f__law_few : Addr
  d__law_few : FuncData
  F__law_few : Fun K "_law_few" "_law_few" s__law_few f__law_few d__law_few
  C__law_few : Cal K mg "_law_few" f__law_few d__law_few ["_law_source", "_law_most"]
  f__law_size : Addr
  d__law_size : FuncData
  F__law_size : Fun K "_law_size" "_law_size" s__law_size f__law_size d__law_size
  C__law_size : Cal K mg "_law_size" f__law_size d__law_size ["_law_row"]
  f__law_copy : Addr
  d__law_copy : FuncData
  F__law_copy : Fun K "_law_copy" "_law_copy" s__law_copy f__law_copy d__law_copy
  C__law_copy : Cal K mg "_law_copy" f__law_copy d__law_copy ["_law_row", "_law_numbers"]
  f__law_draw_address : Addr
  d__law_draw_address : FuncData
  F__law_draw_address : Fun K "_law_draw_address" "_law_draw_address" s__law_draw_address f__law_draw_address d__law_draw_address
  C__law_draw_address : Cal K mg "_law_draw_address" f__law_draw_address d__law_draw_address ["_law_source", "_law_row"]
  f__law_near_place : Addr
  d__law_near_place : FuncData
  F__law_near_place : Fun K "_law_near_place" "_law_near_place" s__law_near_place f__law_near_place d__law_near_place
  C__law_near_place : Cal K mg "_law_near_place" f__law_near_place d__law_near_place ["_law_source", "_law_row", "_law_place"]
  f__law_levels : Addr
  d__law_levels : FuncData
  F__law_levels : Fun K "_law_levels" "_law_levels" s__law_levels f__law_levels d__law_levels
  C__law_levels : Cal K mg "_law_levels" f__law_levels d__law_levels ["_law_row", "_law_place"]
  f__law_many : Addr
  d__law_many : FuncData
  F__law_many : Fun K "_law_many" "_law_many" s__law_many f__law_many d__law_many
  C__law_many : Cal K mg "_law_many" f__law_many d__law_many ["_law_row"]
  f__law_added : Addr
  d__law_added : FuncData
  F__law_added : Fun K "_law_added" "_law_added" s__law_added f__law_added d__law_added
  C__law_added : Cal K mg "_law_added" f__law_added d__law_added ["_law_numbers"]
  f__law_many_beyond : Addr
  d__law_many_beyond : FuncData
  F__law_many_beyond : Fun K "_law_many_beyond" "_law_many_beyond" s__law_many_beyond f__law_many_beyond d__law_many_beyond
  C__law_many_beyond : Cal K mg "_law_many_beyond" f__law_many_beyond d__law_many_beyond ["_law_row", "_law_place", "_law_side"]
  f__law_many_inner : Addr
  d__law_many_inner : FuncData
  F__law_many_inner : Fun K "_law_many_inner" "_law_many_inner" s__law_many_inner f__law_many_inner d__law_many_inner
  C__law_many_inner : Cal K mg "_law_many_inner" f__law_many_inner d__law_many_inner ["_law_row", "_law_one", "_law_other"]
  f_law : Addr
  d_law : FuncData
  F_law : Fun K "law" "law" s_law f_law d_law
  b_abs : mg "abs" = none
  b_all : mg "all" = none
  b_any : mg "any" = none
  b_bool : mg "bool" = none
  b_int : mg "int" = none
  b_isinstance : mg "isinstance" = none
  b_len : mg "len" = none
  b_list : mg "list" = none
  b_range : mg "range" = none
  b_repr : mg "repr" = none
  b_str : mg "str" = none
  b_sum : mg "sum" = none
  b_tuple : mg "tuple" = none
  b_zip : mg "zip" = none

section
variable {P : Program} {w : World} {K : PySem.W.Frag} {mg : Str → Option Value} {base : Heap}
theorem ok_open {f : Addr} {fd : FuncData} (F : Fun K "_law_open_cells" "_law_open_cells" s__law_open_cells f fd) (b_int : mg "int" = none) (b_abs : mg "abs" = none) :
    FnG P w K mg base CX0 1 f fd ["_law_script"] (spOpen K) := by
  refine fn_body F sc__law_open_cells (fun vs H Q E ⟨a, ns, e, _⟩ => by rw [e]; rfl) fun cdv A outer s H vs Q E hr hsp => ?_
  obtain ⟨a, ns, rfl, hS, hlen, q⟩ := hsp
  have nd := sc__law_open_cells.nd
  refine ⟨_, (pss_cons (ps_set (i := 1) nd rfl (.inl rfl) pe_int)
    (pss_cons (ps_for PassesOwn.never rfl (pi_list (pv 0)) (pg_name (i := 2) nd rfl (.inl rfl))
      (pss_one (ps_set (i := 1) nd rfl (.inl rfl) (pe_op op_mod (pe_callTy call_int1 (by rfl) b_int (by decide +kernel) (pa_cons (pe_op op_add (pe_op op_add (pe_op op_mul (pv 1) pe_int) (pe_op op_mul (pv 2) pe_int)) pe_int) pa_nil)) pe_int))))
    (pss_cons (ps_setLc (i := 3) (own := [("_law_cell", 2)]) (g := gName 2) (tt := tYes) rfl nd rfl rfl (sw_true rfl rfl rfl (by decide +kernel)) (pi_list (pv 0))
      (blkOk_by (N := ["_law_script", "_law_stirred", "_law_cell", "_law_cells"]) (sc := defScope s__law_open_cells) (by decide +kernel))
      (fun _ _ _ _ _ => pg_name (i := 2) nd rfl (.inl rfl)) (fun _ _ _ _ _ => pts_nil) (fun _ _ _ _ _ => pe_callB call_abs (by rfl) b_abs (by decide +kernel) (pa_cons (pv 2) pa_nil)))
    (pss_one (ps_ret (pe_disp (pps_cons pe_str (pe_revL (pv 3)) (pps_cons pe_str pe_int (pps_cons pe_str (pv 1) (pps_cons pe_str pe_int pps_nil)))) (by decide) rfl (by decide) (by decide)))))) :
      PSs (cxOf CX0 P w K mg base ["_law_script", "_law_stirred", "_law_cell", "_law_cells"] "_law_open_cells" (defScope s__law_open_cells) f cdv A outer s H E).nox _ _).nox, ?_⟩
  refine ⟨_, rfl, a, rfl, ⟨_, hS⟩, for_list (xs := ns.map V.int) (fun i σ H3 => ∃ (z : Int) (y : Option V), σ = [some (.ref a), some (.int z), y, none] ∧ H3 = H) ⟨11, none, rfl, rfl⟩ (fun i σ H3 _ ⟨z, y, _, e⟩ => by rw [e]; exact hS) (fun i x σ H3 hx ⟨z, y, e1, e2⟩ => ?_) (fun σ H3 ⟨z, y, e1, e2⟩ => ?_)⟩
  · subst e1 e2
    rw [List.getElem?_map] at hx
    cases g : ns[i]? with
    | none => rw [g] at hx; cases hx
    | some n =>
      rw [g] at hx
      cases hx
      refine ⟨_, rfl, _, _, rfl, rfl, .inr (by decide), _, rfl, _, _, rfl, rfl, .inr (by decide), _, _, rfl, rfl, _, _, rfl, rfl, .inl ⟨_, rfl, _, _, rfl, rfl, (by show (0 : Int) < 2147483629; decide), _, _, rfl, rfl⟩⟩
  · subst e1 e2
    refine ⟨_, rfl, a, rfl, ⟨_, hS⟩, fun D hD => ?_⟩
    refine lc_list (xs := ns.map V.int) (fun i H4 => ∃ ms : List Int, ms.length = i ∧ Same H3 H4 ∧ H4 D = some (.lst (ms.map V.int))) ⟨[], rfl, same_new hD, upd_same⟩ (fun i H4 _ ⟨ms, _, sm, _⟩ => Same.seq sm hS) (fun i x H4 hx ⟨ms, em, sm, ed⟩ => ?_) (fun H4 ⟨ms, em, sm, ed⟩ => ?_)
    · rw [List.getElem?_map] at hx
      cases g : ns[i]? with
      | none => rw [g] at hx; cases hx
      | some n =>
        rw [g] at hx
        cases hx
        refine ⟨rfl, ?_⟩
        simp only [tYes, if_true]
        have hi : i < ns.length := (List.getElem?_eq_some_iff.mp g).1
        refine ⟨_, rfl, n, rfl, _, ed, by rw [List.length_map, sizeLine_eq]; omega, ms ++ [if n < 0 then -n else n], by rw [List.length_append, em]; rfl, fun b o e => ?_, ?_⟩
        · rw [upd_ne (ne_of_none e hD)]; exact sm _ _ e
        · rw [upd_same, List.map_append]; rfl
    · -- the dict
      intro p hp
      have npD : p ≠ D := fun e => by rw [e, ed] at hp; cases hp
      refine ⟨_, rfl, D, _, rfl, .inl (.inl (by rw [upd_ne (Ne.symm npD)]; exact ed)), fun R hR => ⟨_, rfl, ?_⟩⟩
      have npR : p ≠ R := fun e => by rw [← e, upd_same] at hR; cases hR
      refine ⟨by rw [upd_ne npR, upd_same], [(kyC, .ref R), (kyL, .int 1), (kyM, .int z), (kyT, .int 0)], rfl, (by show 4 ≤ 15; decide), ?_⟩
      rw [merge4]
      have hpH : H3 p = none := sm.free hp
      have hRH : H3 R = none := by
        have : H4 R = none := by rw [upd_ne (Ne.symm npR)] at hR; exact hR
        exact sm.free this
      refine q _ p R (fun b o e => ?_) hpH hRH ⟨ms.reverse, 1, z, 0, upd_same, ?_, ?_⟩
      · rw [upd_ne (ne_of_none e hpH), upd_ne (ne_of_none e hRH), upd_ne (ne_of_none e hpH)]
        exact sm _ _ e
      · rw [upd_ne (Ne.symm npR), upd_same, List.map_reverse]
      · rw [List.length_reverse, em, List.length_map]; exact hlen
theorem ok_pick {f : Addr} {fd : FuncData} (F : Fun K "_law_pick" "_law_pick" s__law_pick f fd) (b_int : mg "int" = none) (b_len : mg "len" = none) :
    FnG P w K mg base CX0 1 f fd ["_law_source", "_law_most"] (PSp K 2 fsPick) := by
  refine fn_body F sc__law_pick (fun vs H Q E ⟨S', Oc, as, h1, h2, h3, h4, h5, h6⟩ => h4.len.trans h5) fun cdv A outer s H vs Q E hr hsp => ?_
  have nd := sc__law_pick.nd
  have hu := hu_of hr.rm
  obtain ⟨S', Oc, as, h1, h2, h3, h4, h5, h6⟩ := hsp
  refine ⟨_, (pss_cons (ps_if (pt_cmpR op_lt (pv 1) pe_int (nomark _)) (pss_one (ps_ret pe_int)) pss_nil)
    (pss_cons (ps_set (i := 2) nd rfl (.inl rfl) (pe_dget hu (pv 0) pe_str (fun _ _ => rfl)))
    (pss_cons (ps_while PassesOwn.never (PW.pt (pw_and (pt_cmpR op_lt (pe_dget hu (pv 0) pe_str (fun _ _ => rfl)) pe_int (nomark _)) (pw_and1 (pt_cmpR op_gt (pe_callB call_len_seq (by rfl) b_len PySem.boot_len (pa_cons (pv 2) pa_nil)) pe_int (nomark _)))))
      (pss_one (ps_dput hu (pv 0) pe_str (pe_bm0 PySem.F.plainAttrs_list PySem.F.slot_list_pop PySem.F.type_list_pop mt_pop (pv 2)) rfl)))
    (pss_cons (ps_set (i := 3) nd rfl (.inl rfl) (pe_dget hu (pv 0) pe_str (fun _ _ => rfl)))
    (pss_cons (ps_if (pt_cmpR op_gt (pv 3) pe_int (nomark _)) (pss_cons (ps_dput hu (pv 0) pe_str (pe_op op_fdivW (pv 3) (pv 1)) rfl)
      (pss_one (ps_ret (pe_op op_mod (pe_callTy call_int1 (by rfl) b_int (by decide +kernel) (pa_cons (pv 3) pa_nil)) (pv 1))))) pss_nil)
    (pss_cons (ps_dput hu (pv 0) pe_str (pe_op op_add (pe_dget hu (pv 0) pe_str (fun _ _ => rfl)) pe_int) rfl)
    (pss_cons (ps_set (i := 4) nd rfl (.inl rfl) (pe_dget hu (pv 0) pe_str (fun _ _ => rfl)))
    (pss_cons (ps_set (i := 5) nd rfl (.inl rfl) (pe_op op_mod (pe_callTy call_int1 (by rfl) b_int (by decide +kernel) (pa_cons (pe_op op_add (pe_dget hu (pv 0) pe_str (fun _ _ => rfl)) (pe_op op_mul (pv 4) pe_int)) pa_nil)) pe_int))
    (pss_cons (ps_set (i := 5) nd rfl (.inl rfl) (pe_op op_mod (pe_callTy call_int1 (by rfl) b_int (by decide +kernel) (pa_cons (pe_op op_add (pe_op op_mul (pv 5) (pv 5)) (pe_op op_mul (pv 4) pe_int)) pa_nil)) pe_int))
    (pss_one (ps_ret (pe_op op_mod (pe_callTy call_int1 (by rfl) b_int (by decide +kernel) (pa_cons (pe_op op_fdiv (pv 5) pe_int) pa_nil)) (pv 1)))))))))))) :
      PSs (cxOf CX0 P w K mg base ["_law_source", "_law_most", "_law_cells", "_law_others", "_law_lap", "_law_stirred"] "_law_pick" (defScope s__law_pick) f cdv A outer s H E).nox _ _).nox, ?_⟩
  unfold fsPick at h6
  split at h6
  · rename_i m
    obtain ⟨hm, q⟩ := h6
    cases h4 with
    | @so a c _ _ eS t =>
    cases t with
    | va dm t =>
    cases t
    cases dm
    have noS : ∀ {b : Addr} {o : HO} {H1 : Hp}, b ∉ [a, c] → upd H1 a o b = H1 b := fun {b o H1} n => upd_ne fun z => n (by rw [z]; exact List.mem_cons_self)
    have noC : ∀ {b : Addr} {o : HO} {H1 : Hp}, b ∉ [a, c] → upd H1 c o b = H1 b := fun {b o H1} n => upd_ne fun z => n (by rw [z]; exact List.mem_cons_of_mem _ List.mem_cons_self)
    obtain ⟨cells0, l0, m0, t0, e1, e2, e3⟩ : SrcAt H a c := by
      rcases h1.1 with z | ⟨a', c', z, sa⟩
      · rw [eS] at z
        have := congrArg List.length z
        simp only [List.length_cons] at this
        omega
      · rw [eS] at z; cases z; exact sa
    have ac : a ≠ c := ne_of e1 e2 (by intro z; cases z)
    -- the end of each way
    have fin : ∀ (H' : Hp) (r : Int), (∀ b o, b ∉ [a, c] → H b = some o → H' b = some o) → SrcAt H' a c → 0 ≤ r → (r < m ∨ r = 0) → Q (.int r) H' := fun H' r st sa r0 r1 =>
      q r r0 r1 _ H' ⟨fun b o n e => st b o (fun m => n (by
        rw [eS]
        rcases List.mem_cons.mp m with z | z
        · rw [z]; exact List.mem_cons_self
        · rw [List.mem_singleton.mp z]; exact List.mem_cons_of_mem _ List.mem_cons_self)) e, fun _ => ⟨.inr ⟨a, c, eS, sa⟩, fun P m => by
        obtain ⟨ps, e, ok⟩ := h1.2 P m
        refine ⟨ps, st P _ (fun z => ?_) e, ok⟩
        rcases List.mem_cons.mp z with z | z
        · rw [z, e1] at e; cases e
        · rw [List.mem_singleton.mp z, e2] at e; cases e⟩⟩ (.int r)
    refine ⟨_, rfl, _, _, rfl, rfl, _, rfl, ite2 (fun hlt => ?_) (fun hge => ?_)⟩
    · exact fin H 0 (fun _ _ _ e => e) ⟨cells0, l0, m0, t0, e1, e2, e3⟩ (Int.le_refl _) (.inr rfl)
    · have m2 : 2 ≤ m := by
        have : ¬ m < 2 := fun z => hge (decide_eq_true z)
        omega
      have hb : m.natAbs < 2 ^ 60 := by
        have e2 : (2 : Nat) ^ 60 = 1152921504606846976 := by decide
        omega
      refine ⟨_, rfl, a, _, rfl, g4_cells e1, ?_⟩
      refine ⟨fun k σ H' => ∃ (cells : List Int) (l : Int), k = cells.length ∧ σ = [some (.ref a), some (.int m), some (.ref c), none, none, none] ∧ H' a = some (.dK (kvs4 c l m0 t0)) ∧
        H' c = some (.lst (cells.map V.int)) ∧ cells.length ≤ 63 ∧ ∀ b o, b ∉ [a, c] → H b = some o → H' b = some o, ⟨_, cells0, l0, rfl, rfl, e1, e2, e3, fun _ _ _ e => e⟩, ?_⟩
      rintro k σ H' ⟨cells, l, rfl, rfl, f1, f2, f3, f4⟩
      have here : SrcAt H' a c := ⟨cells, l, m0, t0, f1, f2, f3⟩
      have upd_st : ∀ {o : HO}, ∀ b u, b ∉ [a, c] → H b = some u → upd H' a o b = some u := fun {o} b u n e => by rw [noS n]; exact f4 b u n e
      have upd_c : ∀ {o : HO}, upd H' a o c = some (.lst (cells.map V.int)) := fun {o} => by rw [upd_ne (Ne.symm ac)]; exact f2
      refine ⟨_, rfl, a, _, rfl, g4_left f1, _, _, rfl, rfl, _, rfl, ite2 (fun hlt => ?_) (fun hge2 => ?_)⟩
      · refine ⟨_, rfl, c, _, rfl, .inl (.inl (.inl f2)), _, _, rfl, rfl, _, rfl, ite2 (fun hpos => ?_) (fun hno => ?_)⟩
        · have np : 0 < cells.length := by
            have : (0 : Int) < ((cells.map V.int).length : Int) := of_decide_eq_true hpos
            rw [List.length_map] at this
            omega
          have lt1 : cells.length - 1 < cells.length := by omega
          have last : (cells.map V.int)[(cells.map V.int).length - 1]? = some (.int cells[cells.length - 1]) := by
            rw [List.length_map, List.getElem?_map, List.getElem?_eq_getElem lt1]
            rfl
          refine ⟨fun σ1 H1 => ∃ (cs : List Int) (l : Int), cs.length < cells.length ∧ σ1 = [some (.ref a), some (.int m), some (.ref c), none, none, none] ∧ H1 a = some (.dK (kvs4 c l m0 t0)) ∧
            H1 c = some (.lst (cs.map V.int)) ∧ cs.length ≤ 63 ∧ ∀ b o, b ∉ [a, c] → H b = some o → H1 b = some o, fun σ1 H1 ⟨cs, l, g1, g2, g3, g4, g5, g6⟩ => ⟨_, g1, cs, l, rfl, g2, g3, g4, g5, g6⟩, ?_⟩
          refine ⟨_, rfl, .inl ⟨rfl, _, .inl (.inl f2)⟩, c, _, _, rfl, rfl, f2, last, ?_⟩
          have f1' : ∀ {o : HO}, upd H' c o a = some (.dK (kvs4 c l m0 t0)) := fun {o} => by rw [upd_ne ac]; exact f1
          refine ⟨_, rfl, a, _, rfl, p4_left f1', ?_⟩
          refine ⟨cells.dropLast, _, by rw [List.length_dropLast]; omega, rfl, upd_same, ?_, by rw [List.length_dropLast]; omega, fun b u n e => ?_⟩
          · rw [upd_ne (Ne.symm ac), upd_same, List.map_dropLast]
          · rw [noS n, noC n]
            exact f4 b u n e
        · refine ⟨_, rfl, a, _, rfl, g4_left f1, ?_⟩
          refine ⟨_, rfl, _, _, rfl, rfl, _, rfl, ite2 (fun hgt => ?_) (fun hle => ?_)⟩
          · have l1 : 1 < l := of_decide_eq_true hgt
            refine ⟨_, rfl, _, rfl, _, _, rfl, rfl, wide_div (b := 60) (by omega) hb (by decide) (by decide), _, rfl, a, _, rfl, p4_left f1, ?_⟩
            refine ⟨_, rfl, .inl ⟨_, rfl, _, rfl, _, _, rfl, rfl, (by show 0 < m; omega), ?_⟩⟩
            exact fin _ _ upd_st ⟨cells, _, _, _, upd_same, upd_c, f3⟩ (Int.emod_nonneg _ (by omega)) (.inl (Int.emod_lt_of_pos _ (by omega)))
          · refine ⟨_, rfl, a, _, rfl, g4_turn f1, _, _, rfl, rfl, _, rfl, a, _, rfl, p4_turn f1, ?_⟩
            refine ⟨_, rfl, a, _, rfl, g4_turn upd_same, ?_⟩
            refine ⟨_, rfl, a, _, rfl, g4_mixed upd_same, _, rfl, _, _, rfl, rfl, .inr (by decide), _, _, rfl, rfl, .inl ⟨_, rfl, _, _, rfl, rfl, (by show (0 : Int) < 998244353; decide), ?_⟩⟩
            have b1 := Int.emod_nonneg (m0 + (t0 + 1) * 104729) (show (998244353 : Int) ≠ 0 by decide)
            have b2 := Int.emod_lt_of_pos (m0 + (t0 + 1) * 104729) (show (0 : Int) < 998244353 by decide)
            refine ⟨_, rfl, _, rfl, _, _, rfl, rfl, .inl ⟨by omega, by omega⟩, _, rfl, _, _, rfl, rfl, .inr (by decide), _, _, rfl, rfl, .inl ⟨_, rfl, _, _, rfl, rfl, (by show (0 : Int) < 2147483647; decide), ?_⟩⟩
            refine ⟨_, rfl, _, _, rfl, rfl, ⟨by decide, by decide⟩, .inl ⟨_, rfl, _, rfl, _, _, rfl, rfl, (by show 0 < m; omega), ?_⟩⟩
            exact fin _ _ upd_st ⟨cells, _, _, _, upd_same, upd_c, f3⟩ (Int.emod_nonneg _ (by omega)) (.inl (Int.emod_lt_of_pos _ (by omega)))
      · refine ⟨_, rfl, a, _, rfl, g4_left f1, ?_⟩
        refine ⟨_, rfl, _, _, rfl, rfl, _, rfl, ite2 (fun hgt => ?_) (fun hle => ?_)⟩
        · have l1 : 1 < l := of_decide_eq_true hgt
          refine ⟨_, rfl, _, rfl, _, _, rfl, rfl, wide_div (b := 60) (by omega) hb (by decide) (by decide), _, rfl, a, _, rfl, p4_left f1, ?_⟩
          refine ⟨_, rfl, .inl ⟨_, rfl, _, rfl, _, _, rfl, rfl, (by show 0 < m; omega), ?_⟩⟩
          exact fin _ _ upd_st ⟨cells, _, _, _, upd_same, upd_c, f3⟩ (Int.emod_nonneg _ (by omega)) (.inl (Int.emod_lt_of_pos _ (by omega)))
        · refine ⟨_, rfl, a, _, rfl, g4_turn f1, _, _, rfl, rfl, _, rfl, a, _, rfl, p4_turn f1, ?_⟩
          refine ⟨_, rfl, a, _, rfl, g4_turn upd_same, ?_⟩
          refine ⟨_, rfl, a, _, rfl, g4_mixed upd_same, _, rfl, _, _, rfl, rfl, .inr (by decide), _, _, rfl, rfl, .inl ⟨_, rfl, _, _, rfl, rfl, (by show (0 : Int) < 998244353; decide), ?_⟩⟩
          have b1 := Int.emod_nonneg (m0 + (t0 + 1) * 104729) (show (998244353 : Int) ≠ 0 by decide)
          have b2 := Int.emod_lt_of_pos (m0 + (t0 + 1) * 104729) (show (0 : Int) < 998244353 by decide)
          refine ⟨_, rfl, _, rfl, _, _, rfl, rfl, .inl ⟨by omega, by omega⟩, _, rfl, _, _, rfl, rfl, .inr (by decide), _, _, rfl, rfl, .inl ⟨_, rfl, _, _, rfl, rfl, (by show (0 : Int) < 2147483647; decide), ?_⟩⟩
          refine ⟨_, rfl, _, _, rfl, rfl, ⟨by decide, by decide⟩, .inl ⟨_, rfl, _, rfl, _, _, rfl, rfl, (by show 0 < m; omega), ?_⟩⟩
          exact fin _ _ upd_st ⟨cells, _, _, _, upd_same, upd_c, f3⟩ (Int.emod_nonneg _ (by omega)) (.inl (Int.emod_lt_of_pos _ (by omega)))
  · exact h6.elim
end

section
variable {P : Program} {w : World} {K : PySem.W.Frag} {mg : Str → Option Value} {base : Heap}
theorem ok__law_open_cells (T : Top K mg base) : FnG P w K mg base CX0 1 T.f__law_open_cells T.d__law_open_cells ["_law_script"] (spOpen K) := ok_open T.F__law_open_cells T.b_int T.b_abs
theorem ok__law_pick (T : Top K mg base) : FnG P w K mg base CX0 1 T.f__law_pick T.d__law_pick ["_law_source", "_law_most"] (PSp K 2 fsPick) := ok_pick T.F__law_pick T.b_int T.b_len
end
theorem mo__law_pick : MoF fsPick := moPick
end K17

set_option Elab.async false
set_option linter.all false
set_option maxRecDepth 100000
set_option maxHeartbeats 4000000
namespace K17
open PySem PySem.Spec PyProof.Rows L2 DL
variable [Tb]
local macro_rules | `(tactic| walk_at "rw") => `(tactic| simp only [d01, d0m, dm0, d10, Rw.toD, rdIn, wds, flatD, List.all_cons, List.all_nil, dw, Bool.true_or, Bool.false_or, Bool.or_false, Bool.or_true, Bool.true_and, Bool.and_true, Bool.false_and, Bool.and_false, Bool.not_true, Bool.not_false, decide_true, decide_false, true_and, and_true, if_true, if_false, Bool.false_eq_true, reduceIte, Nat.zero_add, Nat.reduceAdd, ite_self, wJR, wJL, wJM, wRJ, wRL, wRM, wLJ, wLR, wLM, wMJ, wMR, wML])
local macro_rules | `(tactic| walk_at "st") => `(tactic| simp only [wBo, w2, rdEq2, wNameS, wName, wC, wPart, startD, List.map_cons, List.map_nil, List.cons_append, List.nil_append, getS, AV.sv, rd1, List.length_cons, List.length_nil, List.replicate, endE, frzD, List.set, wOr, wAnd, wNot, wTru, wIs, wIf, wAndV, wOrV, wNotV, wIxC, wNeg, dat_va, dat_fr, sv_va, sv_fr, gtName, gtCons, gtNil, gtTup, wFrz, wBack, wIfS, wAugI, wPar3, wIsN, if_true, if_false, Bool.false_eq_true, Bool.not_true, Bool.not_false, decide_true, decide_false, Nat.sub_zero, Nat.succ_sub_succ_eq_sub, ite_true, ite_false, reduceIte, true_and, and_true, Nat.zero_add, Nat.reduceAdd, qisStrD_str, qisStrD_tup, qisStrD_lst, qisStrD_int, qisStrD_bl, qisStrD_non, qisStrD_dct, qisTupD_str, qisTupD_tup, qisTupD_lst, qisTupD_int, qisTupD_bl, qisTupD_non, qisTupD_dct, qisLstD_str, qisLstD_tup, qisLstD_lst, qisLstD_int, qisLstD_bl, qisLstD_non, qisLstD_dct, qisDctD_str, qisDctD_tup, qisDctD_lst, qisDctD_int, qisDctD_bl, qisDctD_non, qisDctD_dct, qisBooD_str, qisBooD_tup, qisBooD_lst, qisBooD_int, qisBooD_bl, qisBooD_non, qisBooD_dct, qisIntD_str, qisIntD_tup, qisIntD_lst, qisIntD_int, qisIntD_bl, qisIntD_non, qisIntD_dct, qAddI, qAddS, qAddT, qAddL, qInt, qSlT, qSlL, qSlS, qEqI, qEqS, qEqB, qEqN, qEqT, qEqL, qIxT0, qIxT1, qIxT2, qIxL0, qIxL1, qLenT, qLenL, qLenS, qTupT, qTupL, qLstT, qLstL, qIt, qItL, qIntI, qBl, qTrT, qTrL, qTrI, qTrN, qNoN, qNoT, qNoL, qNoI, qNoS])
local macro_rules | `(tactic| walk_at "run") => `(tactic| ((try walk_at "rw"); (try walk_at "st"); (try walk_at "rw")))
local macro_rules | `(tactic| walk_at "dl") => `(tactic| simp only [wBo, w2, rdEq2, dEq, wNameS, wName, wC, startD, List.map_cons, List.map_nil, List.cons_append, List.nil_append, getS, AV.sv, rd1, List.length_cons, List.length_nil, List.replicate, endE, frzD, wBack, List.set, wOr, wAnd, wNot, wTru, wIs, wIf, wAndV, wOrV, wNotV, wIxC, ixC, nthD, dLen, dTuple, dList, dat_va, dat_fr, sv_va, sv_fr, gtName, gtCons, gtNil, gtTup, truD, wFrz, wIfS, if_true, if_false, Bool.false_eq_true, isStrD, isTupD, isLstD, isBooD, isIntD, isDctD, Bool.not_true, Bool.not_false, decide_true, decide_false, Nat.sub_zero, Nat.succ_sub_succ_eq_sub, ite_true, ite_false, reduceIte, true_and, and_true])

def numD : PyData → Bool
  | .int _ => true
  | _ => false
section
variable {P : Program} {w : World} {K : PySem.W.Frag} {mg : Str → Option Value} {base : Heap}
theorem q_is_number (T : Top K mg base) (B : DL.Kept) (D : Nat) (d : PyData) (u : Value) (M : L2.Mod K mg base) (hB : ∀ b o, base.get? b = some o → B b o) (hD : D < recursionLimit) (kd : Knd B u d) (_ : True) :
    QFn P w B D T.f_is_number [u] (· = .bool (numD d)) := by
  refine qfn_of T.F_is_number sc_is_number T.C_is_number.hb M hB rfl hD rfl fun L cdv => ?_
  have qv : QEnv (envOfC "is_number" (defScope s_is_number) L T.f_is_number cdv) := ⟨rfl, rfl, rfl⟩
  obtain ⟨x, y, e1, e2, e3⟩ : ∃ x y : Bool, kitB (tyN d) "int" = some x ∧ kitB (tyN d) "bool" = some y ∧ numD d = (x && !y) := by
    cases d with
    | none => exact ⟨false, false, (by decide +kernel : kitB "NoneType" "int" = some false), (by decide +kernel : kitB "NoneType" "bool" = some false), rfl⟩
    | bool b => exact ⟨true, true, (by decide +kernel : kitB "bool" "int" = some true), (by decide +kernel : kitB "bool" "bool" = some true), rfl⟩
    | int i => exact ⟨true, false, (by decide +kernel : kitB "int" "int" = some true), (by decide +kernel : kitB "int" "bool" = some false), rfl⟩
    | str x => exact ⟨false, false, (by decide +kernel : kitB "str" "int" = some false), (by decide +kernel : kitB "str" "bool" = some false), rfl⟩
    | list ds => exact ⟨false, false, (by decide +kernel : kitB "list" "int" = some false), (by decide +kernel : kitB "list" "bool" = some false), rfl⟩
    | tuple ds => exact ⟨false, false, (by decide +kernel : kitB "tuple" "int" = some false), (by decide +kernel : kitB "tuple" "bool" = some false), rfl⟩
    | dict ds => exact ⟨false, false, (by decide +kernel : kitB "dict" "int" = some false), (by decide +kernel : kitB "dict" "bool" = some false), rfl⟩
  exact qe_mono (qe_and (qe_isi qv M hB (qe_loc qv rfl rfl) kd e1 rfl T.b_isinstance boot_isinstance rfl T.b_int (by decide +kernel))
    (fun _ => qe_one (qe_not (qe_isi qv M hB (qe_loc qv rfl rfl) kd e2 rfl T.b_isinstance boot_isinstance rfl T.b_bool (by decide +kernel))))) fun v z => by rw [z, e3]
end
section
variable {P : Program} {w : World} {K : PySem.W.Frag} {mg : Str → Option Value} {base : Heap}
theorem ok_inner_first (T : Top K mg base) {fp : Addr} {dp : FuncData} {pp : List Str} {n : Nat} {ok : Rose → Prop} (her : Her ok) (G_parts_of : FnG P w K mg base CX0 n fp dp pp (PSp K 1 (fsNode ok))) (K_parts_of : PySem.W.keepIn K (.ref fp) = true) (B_parts_of : Binds K dp pp []) : FnG P w K mg base CX0 (n+1) T.f_inner_first T.d_inner_first ["whole", "parts_of"] (PSp K 2 (fs_inner_first fp ok)) := by
  refine fn_data T.F_inner_first sc_inner_first (fun cdv A outer s H E hr => (evb_cons (evs_par 2 3 (ev_lst evl_nil) (ev_lst (evl_cons (ev_name 0) evl_nil)) rfl sc_inner_first.nd)
    (evb_cons (evs_while (evt_tru (ev_nameS 3)) (evb_cons (evs_setM 4 (evm_pop 3) sc_inner_first.nd)
     (evb_cons (evs_append 2 (ev_name 4).rv)
     (evb_one (evs_extend 3 (evr_callL 1 G_parts_of moNode (hr.mono (by omega)) K_parts_of B_parts_of (eva_cons (ev_name 4) eva_nil)).cl)))))
    (evb_frz 3 (evb_frz 2 (evb_one (evs_ret (evr_back (ev_nameS 2))))))))) (fun as Q hn hq => ?_)
  obtain ⟨t, ht, hm, rfl, q⟩ := hq
  refine ⟨Nat.zero_le _, z1, fun m sd => ∃ (wt fd : List Rose) (y : SV), sd = [.va t.d, .fn fp, .ow (fd.map Rose.d), .ow (wt.map Rose.d), y] ∧ (∀ c ∈ wt, ok c) ∧ Rose.manyL wt = m ∧ fd.length + m ≤ 1000000 ∧ Rose.innerL wt ++ fd.reverse = t.inner,
    ⟨_, [t], [], .un, rfl, fun c m => by rw [List.mem_singleton.mp m]; exact ht, rfl, by simp only [Rose.manyL, List.length_nil]; omega, by simp only [Rose.innerL, List.append_nil, List.reverse_nil]⟩, ?_⟩
  rintro m sd ⟨wt, fd, y, rfl, h1, h2, h3, h4⟩
  rcases nil_or_snoc wt with rfl | ⟨init, c, rfl⟩
  · show Q (.fr (fd.map Rose.d).reverse)
    rw [← h4] at q
    simp only [Rose.innerL, List.nil_append, List.map_reverse] at q
    exact q
  · have hc := h1 c (List.mem_append_right _ (List.mem_singleton.mpr rfl))
    have hs := many_step c init
    have hl := Rose.len_le (init ++ c.cs)
    rw [List.length_append] at hl
    have lm : (List.map Rose.d (init ++ [c])).isEmpty = false := by simp
    simp only [wTru, wNameS, truD, getS, lm, Bool.not_false, if_true]
    show onOw 3 _ _
    rw [onOw_ow rfl, List.map_append, List.map_cons, List.map_nil, List.getLast?_concat]
    simp only [List.dropLast_concat, List.set, sv_va, getS]
    refine ⟨by rw [List.length_map, sizeLine_eq]; omega, ?_⟩
    refine ⟨rfl, rfl, c, hc, rfl, fun d hd z hz => ?_⟩
    have fin : (init.map Rose.d).length + (c.cs.map Rose.d).length ≤ sizeLine ∧ ∃ m', m' < m ∧ ∃ (wt fd' : List Rose) (y : SV), [SV.va t.d, SV.fn fp, SV.ow (fd.map Rose.d ++ [c.d]), SV.ow (init.map Rose.d ++ c.cs.map Rose.d), SV.va c.d] = [SV.va t.d, SV.fn fp, SV.ow (fd'.map Rose.d), SV.ow (List.map Rose.d wt), y] ∧ (∀ c ∈ wt, ok c) ∧ Rose.manyL wt = m' ∧ fd'.length + m' ≤ 1000000 ∧ Rose.innerL wt ++ fd'.reverse = t.inner := by
      refine ⟨by rw [List.length_map, List.length_map, sizeLine_eq]; omega, Rose.manyL (init ++ c.cs), by omega, init ++ c.cs, fd ++ [c], _, by rw [List.map_append, List.map_append]; rfl, fun e me => ?_, rfl, by rw [List.length_append, List.length_singleton]; omega, ?_⟩
      · rcases List.mem_append.mp me with me | me
        · exact h1 e (List.mem_append_left _ me)
        · exact her c hc e me
      · rw [← h4, inner_step, List.reverse_append, List.append_assoc]; rfl
    cases z with
    | va d2 =>
      have hz : d2 = d := hz
      subst hz
      rcases hd with rfl | rfl
      · exact fin
      · exact fin
    | fr ds =>
      have hz : PyData.list ds = d := hz
      rcases hd with rfl | rfl
      · cases hz; exact fin
      · cases hz
    | fd es =>
      have hz : PyData.dict es = d := hz
      rcases hd with rfl | rfl <;> cases hz
end
/-- things that are rows of any form -/
def okRow0 (t : Rose) : Prop := ∃ r : Rw, t = r.rose
theorem her_row0 : Her okRow0 := by
  rintro t ⟨r, rfl⟩ c m
  rw [r.rose_cs] at m
  obtain ⟨s, ms, rfl⟩ := List.mem_map.mp m
  exact ⟨s, rfl⟩
def fs_parts_of : FSp := fsNode okRow0
theorem mo_parts_of : MoF fs_parts_of := moNode
section
variable {P : Program} {w : World} {K : PySem.W.Frag} {mg : Str → Option Value} {base : Heap}
theorem ok_parts_of (T : Top K mg base) : FnG P w K mg base CX0 (1) T.f_parts_of T.d_parts_of ["row"] (PSp K 1 (fs_parts_of)) := by
  refine fn_data T.F_parts_of sc_parts_of (fun cdv A outer s H E hr => (evb_cons (evs_ifS (evt_tru (evr_is "str" "str" kit_str (ev_nameS 0).bo T.b_isinstance T.b_str boot_isinstance (by decide +kernel)).cl) (evb_one (evs_ret (ev_tup evl_nil))) evb_nil)
    (evb_cons (evs_asg (evm_frz 0) (evg_tup (n := 2) rfl (evgs_cons (evg_name 1 sc_parts_of.nd) (evgs_cons (evg_name 2 sc_parts_of.nd) evgs_nil))))
    (evb_one (evs_ret (evr_if (evt_cmp (od_in hr.rm.units) (ev_nameS 1) (ev_tup (evl_cons ev_str (evl_cons ev_str evl_nil))).cl (by with_unfolding_all rfl)) (ev_tup (evl_cons (ev_name 2) evl_nil)) (ev_name 2).rv)))))) (fun as Q hn hq => ?_)
  obtain ⟨t, ⟨r, rfl⟩, rfl, q⟩ := hq
  rw [r.rose_d]
  rw [r.rose_cs, Rw.rose_map] at q
  have q1 := q _ (.inr rfl)
  cases r with
  | «let» c =>
    walk_at "dl"
    exact ⟨Nat.zero_le _, q1 _ rfl⟩
  | right r =>
    walk_at "rw"
    walk_at "dl"
    walk_at "rw"
    exact ⟨by decide, by decide, q1 _ rfl⟩
  | left r =>
    walk_at "rw"
    walk_at "dl"
    walk_at "rw"
    exact ⟨by decide, by decide, q1 _ rfl⟩
  | join rs =>
    walk_at "rw"
    walk_at "dl"
    walk_at "rw"
    exact ⟨by decide, q1 _ (by simp only [Rw.toDs_eq, Rw.parts])⟩
  | mix rs =>
    walk_at "rw"
    walk_at "dl"
    walk_at "rw"
    exact ⟨by decide, q1 _ (by simp only [Rw.toDs_eq, Rw.parts])⟩
end
end K17

set_option Elab.async false
set_option linter.all false
set_option maxRecDepth 100000
set_option maxHeartbeats 400000
namespace K17
open PySem PySem.Spec PyProof.Rows L2 DL
variable [Tb]
local macro_rules | `(tactic| walk_at "rw") => `(tactic| simp only [d01, d0m, dm0, d10, Rw.toD, rdIn, wds, flatD, List.all_cons, List.all_nil, dw, Bool.true_or, Bool.false_or, Bool.or_false, Bool.or_true, Bool.true_and, Bool.and_true, Bool.false_and, Bool.and_false, Bool.not_true, Bool.not_false, decide_true, decide_false, true_and, and_true, if_true, if_false, Bool.false_eq_true, reduceIte, Nat.zero_add, Nat.reduceAdd, ite_self, wJR, wJL, wJM, wRJ, wRL, wRM, wLJ, wLR, wLM, wMJ, wMR, wML])
local macro_rules | `(tactic| walk_at "st") => `(tactic| simp only [wBo, w2, rdEq2, wNameS, wName, wC, wPart, startD, List.map_cons, List.map_nil, List.cons_append, List.nil_append, getS, AV.sv, rd1, List.length_cons, List.length_nil, List.replicate, endE, frzD, List.set, wOr, wAnd, wNot, wTru, wIs, wIf, wAndV, wOrV, wNotV, wIxC, wNeg, dat_va, dat_fr, sv_va, sv_fr, gtName, gtCons, gtNil, gtTup, wFrz, wBack, wIfS, wAugI, wPar3, wIsN, if_true, if_false, Bool.false_eq_true, Bool.not_true, Bool.not_false, decide_true, decide_false, Nat.sub_zero, Nat.succ_sub_succ_eq_sub, ite_true, ite_false, reduceIte, true_and, and_true, Nat.zero_add, Nat.reduceAdd, qisStrD_str, qisStrD_tup, qisStrD_lst, qisStrD_int, qisStrD_bl, qisStrD_non, qisStrD_dct, qisTupD_str, qisTupD_tup, qisTupD_lst, qisTupD_int, qisTupD_bl, qisTupD_non, qisTupD_dct, qisLstD_str, qisLstD_tup, qisLstD_lst, qisLstD_int, qisLstD_bl, qisLstD_non, qisLstD_dct, qisDctD_str, qisDctD_tup, qisDctD_lst, qisDctD_int, qisDctD_bl, qisDctD_non, qisDctD_dct, qisBooD_str, qisBooD_tup, qisBooD_lst, qisBooD_int, qisBooD_bl, qisBooD_non, qisBooD_dct, qisIntD_str, qisIntD_tup, qisIntD_lst, qisIntD_int, qisIntD_bl, qisIntD_non, qisIntD_dct, qAddI, qAddS, qAddT, qAddL, qInt, qSlT, qSlL, qSlS, qEqI, qEqS, qEqB, qEqN, qEqT, qEqL, qIxT0, qIxT1, qIxT2, qIxL0, qIxL1, qLenT, qLenL, qLenS, qTupT, qTupL, qLstT, qLstL, qIt, qItL, qIntI, qBl, qTrT, qTrL, qTrI, qTrN, qNoN, qNoT, qNoL, qNoI, qNoS])
local macro_rules | `(tactic| walk_at "run") => `(tactic| ((try walk_at "rw"); (try walk_at "st"); (try walk_at "rw")))
local macro_rules | `(tactic| walk_at "dl") => `(tactic| simp only [wBo, w2, rdEq2, dEq, wNameS, wName, wC, startD, List.map_cons, List.map_nil, List.cons_append, List.nil_append, getS, AV.sv, rd1, List.length_cons, List.length_nil, List.replicate, endE, frzD, wBack, List.set, wOr, wAnd, wNot, wTru, wIs, wIf, wAndV, wOrV, wNotV, wIxC, ixC, nthD, dLen, dTuple, dList, dat_va, dat_fr, sv_va, sv_fr, gtName, gtCons, gtNil, gtTup, truD, wFrz, wIfS, if_true, if_false, Bool.false_eq_true, isStrD, isTupD, isLstD, isBooD, isIntD, isDctD, Bool.not_true, Bool.not_false, decide_true, decide_false, Nat.sub_zero, Nat.succ_sub_succ_eq_sub, ite_true, ite_false, reduceIte, true_and, and_true])

def cntD : Option Nat → PyData
  | none => .none
  | some n => .int (n : Int)
def bads : List Str := ["right", "left", "mix"]
theorem let_hd : ∀ c : Fin 26, (hdS (Rw.let c).toD).isSome = true ∧ hdIn bads (Rw.let c).toD = false ∧ isStrD (Rw.let c).toD = true := by decide +kernel
def okH (t : Rose) : Bool := (hdS t.d).isSome
def baH (t : Rose) : Bool := hdIn bads t.d
def leH (t : Rose) : Bool := isStrD t.d
theorem okH_n (d : PyData) (cs : List Rose) : okH (.node d cs) = (hdS d).isSome := rfl
theorem baH_n (d : PyData) (cs : List Rose) : baH (.node d cs) = hdIn bads d := rfl
theorem leH_n (d : PyData) (cs : List Rose) : leH (.node d cs) = isStrD d := rfl
theorem hd_word (x : Str) (ds : PyData) : (hdS (.tuple [.str x, ds])).isSome = true ∧ hdIn bads (.tuple [.str x, ds]) = bads.any (· == x) ∧ isStrD (.tuple [.str x, ds]) = false := ⟨rfl, rfl, rfl⟩
theorem bads_4 : (bads.any (· == sJ)) = false ∧ (bads.any (· == sR)) = true ∧ (bads.any (· == sL)) = true ∧ (bads.any (· == sM)) = true := by decide +kernel
mutual
theorem inner_cnt : ∀ r : Rw, (r.rose.inner.all okH) = true ∧ (r.rose.inner.any baH) = r.cnt.isNone ∧ ∀ n, r.cnt = some n → (r.rose.inner.filter leH).length = n
  | .let c => by
    obtain ⟨h1, h2, h3⟩ := let_hd c
    simp only [Rw.rose, Rose.inner, Rose.innerL, List.nil_append, List.all_cons, List.all_nil, List.any_cons, List.any_nil, okH_n, baH_n, leH_n, h1, h2, h3, Rw.cnt, Bool.and_true, Bool.or_false, Option.isNone_some, List.filter_cons, List.filter_nil, if_true, List.length_cons, List.length_nil, Option.some.injEq]
    exact ⟨trivial, trivial, fun n h => h⟩
  | .join rs => by
    obtain ⟨h1, h2, h3⟩ := innerL_cnt rs
    simp only [Rw.rose, Rose.inner, List.all_append, List.any_append, List.all_cons, List.all_nil, List.any_cons, List.any_nil, okH_n, baH_n, leH_n, Rw.toD, hd_word, bads_4, h1, h2, Rw.cnt, Bool.and_true, Bool.or_false, List.filter_append, List.filter_cons, List.filter_nil, Bool.false_eq_true, if_false, List.append_nil]
    exact ⟨trivial, trivial, h3⟩
  | .right r => by
    obtain ⟨h1, h2, h3⟩ := inner_cnt r
    simp only [Rw.rose, Rose.inner, Rose.innerL, List.append_nil, List.all_append, List.any_append, List.all_cons, List.all_nil, List.any_cons, List.any_nil, okH_n, baH_n, Rw.toD, hd_word, bads_4, h1, Rw.cnt, Bool.and_true, Bool.or_true, Bool.true_or, Option.isNone_none]
    exact ⟨trivial, trivial, fun n h => by cases h⟩
  | .left r => by
    obtain ⟨h1, h2, h3⟩ := inner_cnt r
    simp only [Rw.rose, Rose.inner, Rose.innerL, List.append_nil, List.all_append, List.any_append, List.all_cons, List.all_nil, List.any_cons, List.any_nil, okH_n, baH_n, Rw.toD, hd_word, bads_4, h1, Rw.cnt, Bool.and_true, Bool.or_true, Bool.true_or, Option.isNone_none]
    exact ⟨trivial, trivial, fun n h => by cases h⟩
  | .mix rs => by
    obtain ⟨h1, h2, h3⟩ := innerL_cnt rs
    simp only [Rw.rose, Rose.inner, List.all_append, List.any_append, List.all_cons, List.all_nil, List.any_cons, List.any_nil, okH_n, baH_n, Rw.toD, hd_word, bads_4, h1, Rw.cnt, Bool.and_true, Bool.or_true, Bool.true_or, Option.isNone_none]
    exact ⟨trivial, trivial, fun n h => by cases h⟩
theorem innerL_cnt : ∀ rs : List Rw, ((Rose.innerL (Rw.roseL rs)).all okH) = true ∧ ((Rose.innerL (Rw.roseL rs)).any baH) = (Rw.cntL rs).isNone ∧ ∀ n, Rw.cntL rs = some n → ((Rose.innerL (Rw.roseL rs)).filter leH).length = n
  | [] => by
    simp only [Rw.roseL, Rose.innerL, List.all_nil, List.any_nil, List.filter_nil, List.length_nil, Rw.cntL, Option.isNone_some, Option.some.injEq]
    exact ⟨trivial, trivial, fun n h => h⟩
  | r :: rs => by
    obtain ⟨h1, h2, h3⟩ := inner_cnt r
    obtain ⟨g1, g2, g3⟩ := innerL_cnt rs
    simp only [Rw.roseL, Rose.innerL, List.all_append, List.any_append, List.filter_append, List.length_append, h1, h2, g1, g2, Rw.cntL]
    refine ⟨rfl, ?_, fun n h => ?_⟩
    · cases r.cnt <;> cases Rw.cntL rs <;> rfl
    · cases hr : r.cnt with
      | none => rw [hr] at h; cases h
      | some a =>
        cases hs : Rw.cntL rs with
        | none => rw [hr, hs] at h; cases h
        | some b =>
          rw [hr, hs] at h
          rw [h3 a hr, g3 b hs]
          exact Option.some.inj h
end
/-- how many letters -/
def fs_count : FSp := fun as Q => ∃ r : Rw, r.nodes ≤ 1000000 ∧ as = [.va r.toD] ∧ Q (.va (cntD r.cnt))
theorem mo_count : MoF fs_count := fun as Q Q' k ⟨r, h1, h2, h3⟩ => ⟨r, h1, h2, k _ h3⟩
section
variable {P : Program} {w : World} {K : PySem.W.Frag} {mg : Str → Option Value} {base : Heap}
theorem ok_count (T : Top K mg base) : FnG P w K mg base CX0 (4) T.f_count T.d_count ["row"] (PSp K 1 (fs_count)) := by
  refine fn_dataC T.F_count sc_count (fun cdv hcd A outer s H E hr => (evb_cons (evs_set 1 (evr_call (ok_inner_first T her_row0 (ok_parts_of T) T.C_parts_of.hk T.C_parts_of.hb) mo_inner_first (hr.mono (by omega)) T.C_inner_first.hm T.C_inner_first.hk T.C_inner_first.hb (eva_cons (ev_name 0) (eva_fn T.C_parts_of.hm eva_nil))) sc_count.nd)
    (evb_frz 1 (evb_cons (evs_ifS (evt_tru (evr_anyL T.G_count hcd.symm hr T.b_any (by decide +kernel) (by decide +kernel) (ev_nameS 1) (elt_hdIn rfl (by decide) rfl)).cl) (evb_one (evs_ret (ev_non).rv)) evb_nil)
    (evb_one (evs_ret (evr_blt cd_len T.b_len (by decide +kernel) (evl_cons ((evc_lc (own := [("part", 2)]) (ev_nameS 1) (blkOk_by (N := ["row", "parts", "part"]) (sc := defScope s_count) (by decide +kernel)) (fun _ _ _ _ _ => (evg_name 2 sc_count.nd)) (fun _ _ _ _ _ => (evi_one (evt_tru (evr_is "str" "str" kit_str (ev_nameS 2).bo T.b_isinstance T.b_str boot_isinstance (by decide +kernel)).cl))) (fun _ _ _ _ _ => (ev_name 2).rv)).rv rfl sc_count.nd).cl evl_nil)))))))) (fun as Q hn hq => ?_)
  obtain ⟨r, h1, rfl, q⟩ := hq
  obtain ⟨a1, a2, a3⟩ := inner_cnt r
  refine ⟨rfl, r.rose, ⟨r, rfl⟩, by rw [r.rose_many]; exact h1, by rw [r.rose_d], ?_⟩
  refine ⟨fun d m => by obtain ⟨t, mt, rfl⟩ := List.mem_map.mp m; exact List.all_eq_true.mp a1 t mt, ?_⟩
  have e : ((r.rose.inner.map Rose.d).any (hdIn bads)) = r.cnt.isNone := by rw [List.any_map]; exact a2
  show (if ((r.rose.inner.map Rose.d).any (hdIn bads)) = true then _ else _)
  rw [e]
  cases hc : r.cnt with
  | none =>
    rw [hc] at q
    exact q
  | some n =>
    rw [hc] at q
    refine ⟨⟨rfl, by rw [List.length_map, Rose.inner_len, r.rose_many, sizeLine_eq]; omega⟩, lcW_rowsF Rose.d leH r.rose.inner _ (fun t mt A B h => h) ?_⟩
    show Q (.va (.int ((List.filter leH r.rose.inner).map Rose.d).length))
    rw [List.length_map, a3 n hc]
    exact q
end
end K17

set_option Elab.async false
set_option linter.all false
set_option maxRecDepth 100000
set_option maxHeartbeats 400000
namespace K17
open PySem PySem.Spec PyProof.Rows L2 DL
variable [Tb]
local macro_rules | `(tactic| walk_at "rw") => `(tactic| simp only [d01, d0m, dm0, d10, Rw.toD, rdIn, wds, flatD, List.all_cons, List.all_nil, dw, Bool.true_or, Bool.false_or, Bool.or_false, Bool.or_true, Bool.true_and, Bool.and_true, Bool.false_and, Bool.and_false, Bool.not_true, Bool.not_false, decide_true, decide_false, true_and, and_true, if_true, if_false, Bool.false_eq_true, reduceIte, Nat.zero_add, Nat.reduceAdd, ite_self, wJR, wJL, wJM, wRJ, wRL, wRM, wLJ, wLR, wLM, wMJ, wMR, wML])
local macro_rules | `(tactic| walk_at "st") => `(tactic| simp only [wBo, w2, rdEq2, wNameS, wName, wC, wPart, startD, List.map_cons, List.map_nil, List.cons_append, List.nil_append, getS, AV.sv, rd1, List.length_cons, List.length_nil, List.replicate, endE, frzD, List.set, wOr, wAnd, wNot, wTru, wIs, wIf, wAndV, wOrV, wNotV, wIxC, wNeg, dat_va, dat_fr, sv_va, sv_fr, gtName, gtCons, gtNil, gtTup, wFrz, wBack, wIfS, wAugI, wPar3, wIsN, if_true, if_false, Bool.false_eq_true, Bool.not_true, Bool.not_false, decide_true, decide_false, Nat.sub_zero, Nat.succ_sub_succ_eq_sub, ite_true, ite_false, reduceIte, true_and, and_true, Nat.zero_add, Nat.reduceAdd, qisStrD_str, qisStrD_tup, qisStrD_lst, qisStrD_int, qisStrD_bl, qisStrD_non, qisStrD_dct, qisTupD_str, qisTupD_tup, qisTupD_lst, qisTupD_int, qisTupD_bl, qisTupD_non, qisTupD_dct, qisLstD_str, qisLstD_tup, qisLstD_lst, qisLstD_int, qisLstD_bl, qisLstD_non, qisLstD_dct, qisDctD_str, qisDctD_tup, qisDctD_lst, qisDctD_int, qisDctD_bl, qisDctD_non, qisDctD_dct, qisBooD_str, qisBooD_tup, qisBooD_lst, qisBooD_int, qisBooD_bl, qisBooD_non, qisBooD_dct, qisIntD_str, qisIntD_tup, qisIntD_lst, qisIntD_int, qisIntD_bl, qisIntD_non, qisIntD_dct, qAddI, qAddS, qAddT, qAddL, qInt, qSlT, qSlL, qSlS, qEqI, qEqS, qEqB, qEqN, qEqT, qEqL, qIxT0, qIxT1, qIxT2, qIxL0, qIxL1, qLenT, qLenL, qLenS, qTupT, qTupL, qLstT, qLstL, qIt, qItL, qIntI, qBl, qTrT, qTrL, qTrI, qTrN, qNoN, qNoT, qNoL, qNoI, qNoS])
local macro_rules | `(tactic| walk_at "run") => `(tactic| ((try walk_at "rw"); (try walk_at "st"); (try walk_at "rw")))
local macro_rules | `(tactic| walk_at "dl") => `(tactic| simp only [wBo, w2, rdEq2, dEq, wNameS, wName, wC, startD, List.map_cons, List.map_nil, List.cons_append, List.nil_append, getS, AV.sv, rd1, List.length_cons, List.length_nil, List.replicate, endE, frzD, wBack, List.set, wOr, wAnd, wNot, wTru, wIs, wIf, wAndV, wOrV, wNotV, wIxC, ixC, nthD, dLen, dTuple, dList, dat_va, dat_fr, sv_va, sv_fr, gtName, gtCons, gtNil, gtTup, truD, wFrz, wIfS, if_true, if_false, Bool.false_eq_true, isStrD, isTupD, isLstD, isBooD, isIntD, isDctD, Bool.not_true, Bool.not_false, decide_true, decide_false, Nat.sub_zero, Nat.succ_sub_succ_eq_sub, ite_true, ite_false, reduceIte, true_and, and_true])

/-- the part that a step leads to -/
def fs_part_at : FSp := fun as Q => ∃ (r s : Rw) (key : List Int), Step r key s ∧ r.nodes ≤ 100000 ∧ as = [.va r.toD, .va (intsD key)] ∧ Q (.va s.toD)
theorem mo_part_at : MoF fs_part_at := fun as Q Q' k ⟨r, s, key, h1, h2, h3, h4⟩ => ⟨r, s, key, h1, h2, h3, k _ h4⟩
section
variable {P : Program} {w : World} {K : PySem.W.Frag} {mg : Str → Option Value} {base : Heap}
theorem ok_part_at (T : Top K mg base) : FnG P w K mg base CX0 (1) T.f_part_at T.d_part_at ["dealing", "numbers"] (PSp K 2 (fs_part_at)) := by
  refine fn_data T.F_part_at sc_part_at (fun cdv A outer s H E hr => (evb_cons (evs_asg (evm_frz 0) (evg_tup (n := 2) rfl (evgs_cons (evg_name 2 sc_part_at.nd) (evgs_cons (evg_name 3 sc_part_at.nd) evgs_nil))))
    (evb_cons (evs_ifS (evt_cmp (od_eq2 hr.rm.units) (ev_nameS 2).bo ev_str) (evb_one (evs_ret (evr_ix (id_ix hr.rm.units) (ev_nameS 3) (evr_ixC 0 (ev_nameS 1)).cl))) evb_nil)
    (evb_cons (evs_ifS (evt_cmp (od_eq2 hr.rm.units) (ev_nameS 2).bo ev_str) (evb_one (evs_ret (evr_ix (id_ix hr.rm.units) (ev_nameS 3) (evr_op od_mod (evr_op od_sub (evr_ixC 1 (ev_nameS 1)).cl ev_int).cl (evr_blt cd_len T.b_len (by decide +kernel) (evl_cons (ev_nameS 3) evl_nil)).cl).cl))) evb_nil)
    (evb_one (evs_retO 3)))))) (fun as Q hn hq => ?_)
  obtain ⟨r, s, key, hs, hn, rfl, q⟩ := hq
  cases hs with
  | @join rs _ k h =>
    walk_at "rw"
    walk_at "dl"
    simp only [intsD, List.map_cons, List.map_nil, nthD]
    rw [Rw.toDs_eq]
    exact rdIx_tup (by rw [List.getElem?_map, h]; rfl) q
  | right i =>
    walk_at "rw"
    walk_at "dl"
    walk_at "rw"
    exact q
  | left i =>
    walk_at "rw"
    walk_at "dl"
    walk_at "rw"
    exact q
  | @mix rs _ k n h =>
    walk_at "rw"
    walk_at "dl"
    simp only [intsD, List.map_cons, List.map_nil, nthD]
    walk_at "rw"
    rw [Rw.toDs_eq]
    have hl : 0 < rs.length := by
      cases rs with
      | nil => simp at h
      | cons a t => simp
    have e : (((n + 1 : Nat) : Int) - 1) % ((rs.map Rw.toD).length : Int) = ((n % rs.length : Nat) : Int) := by
      rw [List.length_map, show (((n + 1 : Nat) : Int) - 1) = (n : Int) by omega]
      rfl
    refine ⟨trivial, by show (0 : Int) < ((rs.map Rw.toD).length : Int); rw [List.length_map]; omega, ?_⟩
    show rdIx _ (.int ((((n + 1 : Nat) : Int) - 1) % ((rs.map Rw.toD).length : Int))) Q
    rw [e]
    exact rdIx_tup (by rw [List.getElem?_map, h]; rfl) q
end
/-- the numbers of a step -/
def fs__numbers_at : FSp := fun as Q => ∃ (r s : Rw) (pre key post : List Int), Step r key s ∧ as = [.va r.toD, .va (intsD (pre ++ (key ++ post))), .va (.int pre.length)] ∧ Q (.va (intsD key))
theorem mo__numbers_at : MoF fs__numbers_at := fun as Q Q' k ⟨r, s, a, b, c, h1, h2, h3⟩ => ⟨r, s, a, b, c, h1, h2, k _ h3⟩
section
variable {P : Program} {w : World} {K : PySem.W.Frag} {mg : Str → Option Value} {base : Heap}
theorem ok__numbers_at (T : Top K mg base) : FnG P w K mg base CX0 (1) T.f__numbers_at T.d__numbers_at ["dealing", "place", "at"] (PSp K 3 (fs__numbers_at)) := by
  refine fn_data T.F__numbers_at sc__numbers_at (fun cdv A outer s H E hr => (evb_one (evs_ret (evr_slice (ev_nameS 1) (evo_some (ev_nameS 2)) (evo_some (evr_op od_add (ev_nameS 2) (evr_if (evt_cmp (od_eq2 hr.rm.units) (evr_ixC 0 (ev_nameS 0)).cl ev_str) (ev_int).rv (ev_int).rv).cl).cl))))) (fun as Q hn hq => ?_)
  obtain ⟨r, s, pre, key, post, hs, rfl, q⟩ := hq
  have hl := hs.len
  have fin : Q (.va (.tuple (cutD ((pre ++ (key ++ post)).map PyData.int) (some (pre.length : Int)) (some ((pre.length : Int) + (key.length : Int)))))) := by
    rw [cutD_map, cut_mid]; exact q
  cases hs with
  | @join rs _ k h =>
    walk_at "rw"
    walk_at "st"
    walk_at "rw"
    exact fin
  | right i =>
    walk_at "rw"
    walk_at "st"
    walk_at "rw"
    exact fin
  | left i =>
    walk_at "rw"
    walk_at "st"
    walk_at "rw"
    exact fin
  | @mix rs _ k n h =>
    walk_at "rw"
    walk_at "st"
    exact fin
end
def fs_way_to : FSp := fun as Q => ∃ (r : Rw) (p : List Int) (ss : List (Rw × List Int × Nat)) (c : Fin 26), Way r p 0 ss c ∧ r.nodes ≤ 100000 ∧ as = [.va r.toD, .va (intsD p)] ∧ Q (.fr (ss.map stepD))
theorem mo_way_to : MoF fs_way_to := fun as Q Q' k ⟨r, s, a, b, h1, h2, h3, h4⟩ => ⟨r, s, a, b, h1, h2, h3, k _ h4⟩
section
variable {P : Program} {w : World} {K : PySem.W.Frag} {mg : Str → Option Value} {base : Heap}
theorem ok_way_to (T : Top K mg base) : FnG P w K mg base CX0 (2) T.f_way_to T.d_way_to ["row", "place"] (PSp K 2 (fs_way_to)) := by
  refine fn_data T.F_way_to sc_way_to (fun cdv A outer s H E hr => (evb_cons (evs_par 2 3 (ev_lst evl_nil) (ev_int).rv rfl sc_way_to.nd)
    (evb_cons (evs_while (evt_not (evt_tru (evr_is "str" "str" kit_str (ev_nameS 0).bo T.b_isinstance T.b_str boot_isinstance (by decide +kernel)).cl)) (evb_cons (evs_set 4 (evr_call (ok__numbers_at T) mo__numbers_at (hr.mono (by omega)) T.C__numbers_at.hm T.C__numbers_at.hk T.C__numbers_at.hb (eva_cons (ev_name 0) (eva_cons (ev_name 1) (eva_cons (ev_name 3) eva_nil)))) sc_way_to.nd)
     (evb_cons (evs_append 2 (ev_tup (evl_cons (ev_name 0) (evl_cons (ev_name 4) (evl_cons (ev_name 3) evl_nil)))))
     (evb_cons (evs_set 0 (evr_call (ok_part_at T) mo_part_at (hr.mono (by omega)) T.C_part_at.hm T.C_part_at.hk T.C_part_at.hb (eva_cons (ev_name 0) (eva_cons (ev_name 4) eva_nil))) sc_way_to.nd)
     (evb_one (evs_augI 3 (evr_blt cd_len T.b_len (by decide +kernel) (evl_cons (ev_nameS 4) evl_nil)).cl sc_way_to.nd))))))
    (evb_one (evs_retO 2))))) (fun as Q hn hq => ?_)
  obtain ⟨r, p, ss, c, hw, hz, rfl, q⟩ := hq
  have hd := dep_nodes r
  refine ⟨Nat.zero_le _, fun m sd => ∃ (r' : Rw) (pre rest : List Int) (done todo : List (Rw × List Int × Nat)) (y : SV), sd = [.va r'.toD, .va (intsD p), .ow (done.map stepD), .va (.int pre.length), y] ∧ Way r' rest pre.length todo c ∧ pre ++ rest = p ∧ done ++ todo = ss ∧ r'.dep = m ∧ done.length + m ≤ 100000 ∧ r'.nodes ≤ 100000,
    ⟨_, r, [], p, [], ss, .un, rfl, hw, rfl, rfl, rfl, by simp only [List.length_nil]; omega, hz⟩, ?_⟩
  rintro m sd ⟨r', pre, rest, done, todo, y, rfl, w, h1, h2, h3, h4, h5⟩
  cases w with
  | «let» c n =>
    simp only [List.append_nil] at h2
    subst h2
    exact q
  | @step _ s key p' _ ss' _ hs t =>
    have hns : isStrD r'.toD = false := Rw.notStr (by cases hs <;> rfl)
    have hl := hs.len
    have hdp := hs.dep
    have hno := hs.nodes
    simp only [wNot, wTru, wIs, wNameS, getS, dat_va, hns, qBl, Bool.not_false, if_true]
    refine ⟨rfl, r', s, pre, key, p', hs, by rw [h1], ?_⟩
    refine ⟨by show 3 ≤ sizeLine; decide, by rw [List.length_map, sizeLine_eq]; omega, rfl, r', s, key, hs, h5, rfl, ?_⟩
    refine ⟨s.dep, by omega, s, pre ++ key, p', done ++ [(r', key, pre.length)], ss', .va (intsD key), ?_, by rw [List.length_append]; exact t, by rw [List.append_assoc]; exact h1, by rw [List.append_assoc]; exact h2, rfl, by rw [List.length_append, List.length_singleton]; omega, by omega⟩
    rw [List.map_append, List.length_append, Int.natCast_add]
    show [SV.va s.toD, SV.va (intsD p), SV.ow (done.map stepD ++ [stepD (r', key, pre.length)]), SV.va (.int ((pre.length : Int) + (((key.map PyData.int).length : Nat) : Int))), SV.va (intsD key)] = _
    rw [List.length_map]
    rfl
end
/-- whether numbers tell a part -/
def fs__tell_a_part : FSp := fun as Q => ∃ (r : Rw) (ns : List Int), r.isL = false ∧ as = [.va r.toD, .va (intsD ns)] ∧ Q (.va (.bool (tellB r ns)))
theorem mo__tell_a_part : MoF fs__tell_a_part := fun as Q Q' k ⟨r, ns, h1, h2, h3⟩ => ⟨r, ns, h1, h2, k _ h3⟩
theorem all_num (ns : List Int) : (ns.map PyData.int).all numD = true := by
  rw [List.all_eq_true]
  intro x m
  obtain ⟨i, _, rfl⟩ := List.mem_map.mp m
  rfl
section
variable {P : Program} {w : World} {K : PySem.W.Frag} {mg : Str → Option Value} {base : Heap}
theorem ok__tell_a_part (T : Top K mg base) : FnG P w K mg base CX0 (2) T.f__tell_a_part T.d__tell_a_part ["dealing", "numbers"] (PSp K 2 (fs__tell_a_part)) := by
  refine fn_dataC T.F__tell_a_part sc__tell_a_part (fun cdv hcd A outer s H E hr => (evb_cons (evs_ifS (evw_or (evt_cmp (od_eq2 hr.rm.units) (evr_blt cd_len T.b_len (by decide +kernel) (evl_cons (ev_nameS 1) evl_nil)).cl ev_int) (evw_or (evt_not (evt_tru (evr_allG T.G__tell_a_part hcd.symm hr T.b_all (by decide +kernel) (by decide +kernel) (ev_nameS 1) (elt_call1 (k := 0) T.C_is_number (q_is_number T) (hr.mono (by omega)) rfl rfl)).cl)) (evw_or1 (evt_cmp od_lt (evr_ixC 0 (ev_nameS 1)).cl ev_int)))).t (evb_one (evs_ret (ev_bl).rv)) evb_nil)
    (evb_cons (evs_ifS (evt_cmp (od_eq2 hr.rm.units) (evr_ixC 0 (ev_nameS 0)).cl ev_str) (evb_one (evs_ret (evr_and (evr_cmp (od_eq2 hr.rm.units) (evr_blt cd_len T.b_len (by decide +kernel) (evl_cons (ev_nameS 1) evl_nil)).cl ev_int) (evr_and (evr_cmp (od_eq2 hr.rm.units) (evr_op od_mod (evr_ixC 0 (ev_nameS 1)).cl ev_int).cl ev_int) (evr_one (evr_cmp od_le (evr_bits (evr_ixC 0 (ev_nameS 1)).cl).cl (evr_ixC 1 (ev_nameS 1)).cl)))))) evb_nil)
    (evb_one (evs_ret (evr_or (evr_cmp (od_ne2 hr.rm.units) (evr_ixC 0 (ev_nameS 0)).cl ev_str) (evr_one (evr_cmp od_lt (evr_ixC 0 (ev_nameS 1)).cl (evr_blt cd_len T.b_len (by decide +kernel) (evl_cons (evr_ixC 1 (ev_nameS 0)).cl evl_nil)).cl)))))))) (fun as Q hn hq => ?_)
  obtain ⟨r, ns, hL, rfl, q⟩ := hq
  cases ns with
  | nil => exact q
  | cons k rest =>
    refine ⟨fun _ _ => trivial, ite3 (fun h => ?_) (fun _ => ⟨trivial, ite3 (fun h => ?_) (fun h => ?_)⟩)⟩
    · have e := all_num (k :: rest)
      have h : (!(List.map PyData.int (k :: rest)).all numD) = true := h
      rw [e] at h
      cases h
    · have h : k < 0 := of_decide_eq_true h
      simp only [tellB, if_pos h] at q
      exact q
    · have h : ¬ k < 0 := fun z => h (decide_eq_true z)
      simp only [tellB, if_neg h] at q
      cases r with
      | «let» c => cases hL
      | join rs =>
        walk_at "rw"
        walk_at "st"
        walk_at "rw"
        rw [Rw.toDs_eq, List.length_map]
        exact ⟨trivial, q⟩
      | right r0 =>
        walk_at "rw"
        walk_at "st"
        walk_at "rw"
        exact q
      | left r0 =>
        walk_at "rw"
        walk_at "st"
        walk_at "rw"
        exact q
      | mix rs =>
        walk_at "rw"
        walk_at "st"
        cases rest with
        | nil => exact q
        | cons n more =>
          cases more with
          | cons n2 more => exact q
          | nil =>
            refine ⟨(by decide : (0 : Int) < 2), ite3 (fun h => ⟨trivial, ?_⟩) (fun h => ?_)⟩
            · have h : k % 2 = 1 := of_decide_eq_true h
              have q : Q (.va (.bool (decide (k % 2 = 1) && decide ((bitsI k : Int) ≤ n)))) := q
              rw [decide_eq_true h, Bool.true_and] at q
              exact q
            · have h : ¬ k % 2 = 1 := fun z => h (decide_eq_true z)
              have q : Q (.va (.bool (decide (k % 2 = 1) && decide ((bitsI k : Int) ≤ n)))) := q
              rw [decide_eq_false h, Bool.false_and] at q
              exact q
end
end K17

set_option Elab.async false
set_option linter.all false
set_option maxRecDepth 100000
set_option maxHeartbeats 400000
namespace K17
open PySem PySem.Spec PyProof.Rows L2 DL
variable [Tb]
local macro_rules | `(tactic| walk_at "rw") => `(tactic| simp only [d01, d0m, dm0, d10, Rw.toD, rdIn, wds, flatD, List.all_cons, List.all_nil, dw, Bool.true_or, Bool.false_or, Bool.or_false, Bool.or_true, Bool.true_and, Bool.and_true, Bool.false_and, Bool.and_false, Bool.not_true, Bool.not_false, decide_true, decide_false, true_and, and_true, if_true, if_false, Bool.false_eq_true, reduceIte, Nat.zero_add, Nat.reduceAdd, ite_self, wJR, wJL, wJM, wRJ, wRL, wRM, wLJ, wLR, wLM, wMJ, wMR, wML])
local macro_rules | `(tactic| walk_at "st") => `(tactic| simp only [wBo, w2, rdEq2, wNameS, wName, wC, wPart, startD, List.map_cons, List.map_nil, List.cons_append, List.nil_append, getS, AV.sv, rd1, List.length_cons, List.length_nil, List.replicate, endE, frzD, List.set, wOr, wAnd, wNot, wTru, wIs, wIf, wAndV, wOrV, wNotV, wIxC, wNeg, dat_va, dat_fr, sv_va, sv_fr, gtName, gtCons, gtNil, gtTup, wFrz, wBack, wIfS, wAugI, wPar3, wIsN, if_true, if_false, Bool.false_eq_true, Bool.not_true, Bool.not_false, decide_true, decide_false, Nat.sub_zero, Nat.succ_sub_succ_eq_sub, ite_true, ite_false, reduceIte, true_and, and_true, Nat.zero_add, Nat.reduceAdd, qisStrD_str, qisStrD_tup, qisStrD_lst, qisStrD_int, qisStrD_bl, qisStrD_non, qisStrD_dct, qisTupD_str, qisTupD_tup, qisTupD_lst, qisTupD_int, qisTupD_bl, qisTupD_non, qisTupD_dct, qisLstD_str, qisLstD_tup, qisLstD_lst, qisLstD_int, qisLstD_bl, qisLstD_non, qisLstD_dct, qisDctD_str, qisDctD_tup, qisDctD_lst, qisDctD_int, qisDctD_bl, qisDctD_non, qisDctD_dct, qisBooD_str, qisBooD_tup, qisBooD_lst, qisBooD_int, qisBooD_bl, qisBooD_non, qisBooD_dct, qisIntD_str, qisIntD_tup, qisIntD_lst, qisIntD_int, qisIntD_bl, qisIntD_non, qisIntD_dct, qAddI, qAddS, qAddT, qAddL, qInt, qSlT, qSlL, qSlS, qEqI, qEqS, qEqB, qEqN, qEqT, qEqL, qIxT0, qIxT1, qIxT2, qIxL0, qIxL1, qLenT, qLenL, qLenS, qTupT, qTupL, qLstT, qLstL, qIt, qItL, qIntI, qBl, qTrT, qTrL, qTrI, qTrN, qNoN, qNoT, qNoL, qNoI, qNoS])
local macro_rules | `(tactic| walk_at "run") => `(tactic| ((try walk_at "rw"); (try walk_at "st"); (try walk_at "rw")))
local macro_rules | `(tactic| walk_at "dl") => `(tactic| simp only [wBo, w2, rdEq2, dEq, wNameS, wName, wC, startD, List.map_cons, List.map_nil, List.cons_append, List.nil_append, getS, AV.sv, rd1, List.length_cons, List.length_nil, List.replicate, endE, frzD, wBack, List.set, wOr, wAnd, wNot, wTru, wIs, wIf, wAndV, wOrV, wNotV, wIxC, ixC, nthD, dLen, dTuple, dList, dat_va, dat_fr, sv_va, sv_fr, gtName, gtCons, gtNil, gtTup, truD, wFrz, wIfS, if_true, if_false, Bool.false_eq_true, isStrD, isTupD, isLstD, isBooD, isIntD, isDctD, Bool.not_true, Bool.not_false, decide_true, decide_false, Nat.sub_zero, Nat.succ_sub_succ_eq_sub, ite_true, ite_false, reduceIte, true_and, and_true])

def sideS (s : Bool) : Str := if s then sL else sR
theorem ep_step (acc : List Int) (k : Int) (o : Option (List Int)) : (o.map (k :: ·)).map (acc ++ ·) = o.map ((acc ++ [k]) ++ ·) := by cases o <;> simp
def fs__met_first : FSp := fun as Q => ∃ (r : Rw) (s : Bool), r.wf = true ∧ r.nodes ≤ 100000 ∧ as = [.va r.toD, .va (.str (sideS s))] ∧ Q (.va (optD (r.ep s)))
theorem mo__met_first : MoF fs__met_first := fun as Q Q' k ⟨r, s, h1, h2, h3, h4⟩ => ⟨r, s, h1, h2, h3, k _ h4⟩
section
variable {P : Program} {w : World} {K : PySem.W.Frag} {mg : Str → Option Value} {base : Heap}
theorem ok__met_first (T : Top K mg base) : FnG P w K mg base CX0 (2) T.f__met_first T.d__met_first ["row", "side"] (PSp K 2 (fs__met_first)) := by
  refine fn_data T.F__met_first sc__met_first (fun cdv A outer s H E hr => (evb_cons (evs_set 2 (ev_tup evl_nil) sc__met_first.nd)
    (evb_cons (evs_while (evt_not (evt_tru (evr_is "str" "str" kit_str (ev_nameS 0).bo T.b_isinstance T.b_str boot_isinstance (by decide +kernel)).cl)) (evb_cons (evs_ifS (evt_cmp (od_notIn hr.rm.units) (evr_ixC 0 (ev_nameS 0)).cl (ev_tup (evl_cons ev_str (evl_cons (ev_name 1) evl_nil))).cl (by with_unfolding_all rfl)) (evb_one (evs_ret (ev_non).rv)) evb_nil)
     (evb_cons (evs_set 3 (evr_if (evw_and (evt_cmp (od_eq2 hr.rm.units) (evr_ixC 0 (ev_nameS 0)).cl ev_str) (evw_and1 (evt_cmp (od_eq2 hr.rm.units) (ev_nameS 1).bo ev_str))).t (evr_op od_sub (evr_blt cd_len T.b_len (by decide +kernel) (evl_cons (evr_ixC 1 (ev_nameS 0)).cl evl_nil)).cl ev_int) (ev_int).rv) sc__met_first.nd)
     (evb_cons (evs_set 2 (ev_tup (evl_star (ev_nameS 2) (evl_cons (ev_name 3) evl_nil))) sc__met_first.nd)
     (evb_one (evs_set 0 (evr_call (ok_part_at T) mo_part_at (hr.mono (by omega)) T.C_part_at.hm T.C_part_at.hk T.C_part_at.hb (eva_cons (ev_name 0) (eva_cons (ev_tup (evl_cons (ev_name 3) evl_nil)).cl eva_nil))) sc__met_first.nd))))))
    (evb_one (evs_retO 2))))) (fun as Q hn hq => ?_)
  obtain ⟨r, s, hw, hz, rfl, q⟩ := hq
  refine ⟨Nat.zero_le _, ?_⟩
  refine ⟨fun m sd => ∃ (r' : Rw) (acc : List Int) (y : SV), sd = [.va r'.toD, .va (.str (sideS s)), .va (intsD acc), y] ∧ r'.wf = true ∧ r'.nodes ≤ 100000 ∧ r.ep s = (r'.ep s).map (acc ++ ·) ∧ r'.dep = m ∧ acc.length + m ≤ 100000,
    ⟨_, r, [], .un, rfl, hw, hz, by simp, rfl, by have := dep_nodes r; simp only [List.length_nil]; omega⟩, ?_⟩
  rintro m sd ⟨r', acc, y, rfl, w, hn', h1, h2, h3⟩
  cases r' with
  | «let» c =>
    simp only [Rw.ep, Option.map_some, List.append_nil] at h1
    rw [h1] at q
    exact q
  | mix rs =>
    simp only [Rw.ep, Option.map_none] at h1
    rw [h1] at q
    walk_at "rw"
    walk_at "st"
    cases s
    · simp only [sideS]
      walk_at "rw"
      exact ⟨by decide, q⟩
    · simp only [sideS]
      walk_at "rw"
      exact ⟨by decide, q⟩
  | join rs =>
    have w2 : 2 ≤ rs.length := by simp only [Rw.wf, Bool.and_eq_true, decide_eq_true_eq] at w; exact w.1
    obtain ⟨f, hf⟩ : ∃ f, rs[0]? = some f := ⟨rs[0], List.getElem?_eq_getElem (by omega)⟩
    obtain ⟨l, hl⟩ : ∃ l, rs[rs.length - 1]? = some l := ⟨rs[rs.length - 1], List.getElem?_eq_getElem (by omega)⟩
    have ek : ((Rw.toDs rs).length : Int) - 1 = ((rs.length - 1 : Nat) : Int) := by rw [Rw.toDs_eq, List.length_map]; omega
    walk_at "rw"
    walk_at "st"
    cases s
    · simp only [sideS]
      walk_at "rw"
      have hs : Step (.join rs) [((0 : Nat) : Int)] f := .join 0 hf
      have hd := hs.dep
      have hm := hs.nodes
      have e : Rw.ep false (.join rs) = (Rw.ep false f).map ((0 : Int) :: ·) := by simp only [Rw.ep, Bool.false_eq_true, if_false]; rw [Rw.epH_eq false rs hf]
      exact ⟨by decide, by rw [List.length_append, List.length_map, List.length_singleton, sizeLine_eq]; omega, by decide, _, f, [0], hs, hn', rfl, f.dep, by omega, f, acc ++ [0], _, by simp only [intsD, List.map_append]; rfl, hs.wf w, by omega, by rw [h1, e]; exact ep_step _ _ _, rfl, by rw [List.length_append, List.length_singleton]; omega⟩
    · simp only [sideS]
      walk_at "rw"
      rw [ek]
      have hs : Step (.join rs) [((rs.length - 1 : Nat) : Int)] l := .join _ hl
      have hd := hs.dep
      have hm := hs.nodes
      have e : Rw.ep true (.join rs) = (Rw.ep true l).map (((rs.length - 1 : Nat) : Int) :: ·) := by simp only [Rw.ep, if_true]; rw [Rw.epL_eq true rs hl]
      exact ⟨by decide, by rw [List.length_append, List.length_map, List.length_singleton, sizeLine_eq]; omega, by decide, _, l, [((rs.length - 1 : Nat) : Int)], hs, hn', rfl, l.dep, by omega, l, acc ++ [((rs.length - 1 : Nat) : Int)], _, by simp only [intsD, List.map_append]; rfl, hs.wf w, by omega, by rw [h1, e]; exact ep_step _ _ _, rfl, by rw [List.length_append, List.length_singleton]; omega⟩
  | right r0 =>
    walk_at "rw"
    walk_at "st"
    cases s
    · simp only [sideS]
      walk_at "rw"
      have hs : Step (.right r0) [((0 : Nat) : Int)] r0 := .right 0
      have hd := hs.dep
      have hm := hs.nodes
      have e : Rw.ep false (.right r0) = (Rw.ep false r0).map ((0 : Int) :: ·) := by simp only [Rw.ep, Bool.false_eq_true, if_false]
      exact ⟨by decide, by rw [List.length_append, List.length_map, List.length_singleton, sizeLine_eq]; omega, by decide, _, r0, [0], hs, hn', rfl, r0.dep, by omega, r0, acc ++ [0], _, by simp only [intsD, List.map_append]; rfl, hs.wf w, by omega, by rw [h1, e]; exact ep_step _ _ _, rfl, by rw [List.length_append, List.length_singleton]; omega⟩
    · simp only [sideS]
      walk_at "rw"
      simp only [Rw.ep, if_true, Option.map_none] at h1
      rw [h1] at q
      exact ⟨by decide, q⟩
  | left r0 =>
    walk_at "rw"
    walk_at "st"
    cases s
    · simp only [sideS]
      walk_at "rw"
      simp only [Rw.ep, Bool.false_eq_true, if_false, Option.map_none] at h1
      rw [h1] at q
      exact ⟨by decide, q⟩
    · simp only [sideS]
      walk_at "rw"
      have hs : Step (.left r0) [((0 : Nat) : Int)] r0 := .left 0
      have hd := hs.dep
      have hm := hs.nodes
      have e : Rw.ep true (.left r0) = (Rw.ep true r0).map ((0 : Int) :: ·) := by simp only [Rw.ep, if_true]
      exact ⟨by decide, by rw [List.length_append, List.length_map, List.length_singleton, sizeLine_eq]; omega, by decide, _, r0, [0], hs, hn', rfl, r0.dep, by omega, r0, acc ++ [0], _, by simp only [intsD, List.map_append]; rfl, hs.wf w, by omega, by rw [h1, e]; exact ep_step _ _ _, rfl, by rw [List.length_append, List.length_singleton]; omega⟩
end
def fs_first_place : FSp := fun as Q => ∃ (r : Rw), r.wf = true ∧ r.nodes ≤ 100000 ∧ as = [.va r.toD] ∧ Q (.va (optD (r.ep false)))
theorem mo_first_place : MoF fs_first_place := fun as Q Q' k ⟨r, h1, h2, h3, h4⟩ => ⟨r, h1, h2, h3, k _ h4⟩
def fs_last_place : FSp := fun as Q => ∃ (r : Rw), r.wf = true ∧ r.nodes ≤ 100000 ∧ as = [.va r.toD] ∧ Q (.va (optD (r.ep true)))
theorem mo_last_place : MoF fs_last_place := fun as Q Q' k ⟨r, h1, h2, h3, h4⟩ => ⟨r, h1, h2, h3, k _ h4⟩
def prtD : Par → PyData
  | none => .none
  | some (r, k, k', n) => .tuple [r.toD, intsD k, intsD k', .int n]
/-- where two addresses part -/
def fs_parting : FSp := fun as Q => ∃ (r : Rw) (p p' : List Int) (o : Par), Ad r p ∧ Ad r p' ∧ Prt r p p' 0 o ∧ r.nodes ≤ 100000 ∧ as = [.va r.toD, .va (intsD p), .va (intsD p')] ∧ Q (.va (prtD o))
theorem mo_parting : MoF fs_parting := fun as Q Q' k ⟨r, p, q, o, h1, h2, h3, h4, h5, h6⟩ => ⟨r, p, q, o, h1, h2, h3, h4, h5, k _ h6⟩
section
variable {P : Program} {w : World} {K : PySem.W.Frag} {mg : Str → Option Value} {base : Heap}
theorem ok_parting (T : Top K mg base) : FnG P w K mg base CX0 (4) T.f_parting T.d_parting ["row", "one", "other"] (PSp K 3 (fs_parting)) := by
  refine fn_data T.F_parting sc_parting (fun cdv A outer s H E hr => (evb_cons (evs_forZ (evl_cons (evr_call (ok_way_to T) mo_way_to (hr.mono (by omega)) T.C_way_to.hm T.C_way_to.hk T.C_way_to.hb (eva_cons (ev_name 0) (eva_cons (ev_name 1) eva_nil))).cl (evl_cons (evr_call (ok_way_to T) mo_way_to (hr.mono (by omega)) T.C_way_to.hm T.C_way_to.hk T.C_way_to.hb (eva_cons (ev_name 0) (eva_cons (ev_name 2) eva_nil))).cl evl_nil)) (evg_tup (n := 2) rfl (evgs_cons (evg_tup (n := 3) rfl (evgs_cons (evg_name 3 sc_parting.nd) (evgs_cons (evg_name 4 sc_parting.nd) (evgs_cons (evg_name 5 sc_parting.nd) evgs_nil)))) (evgs_cons (evg_tup (n := 3) rfl (evgs_cons (evg_name 6 sc_parting.nd) (evgs_cons (evg_name 7 sc_parting.nd) (evgs_cons (evg_name 6 sc_parting.nd) evgs_nil)))) evgs_nil))) (evb_one (evs_ifS (evt_cmp (od_ne2 hr.rm.units) (ev_nameS 4).bo (ev_nameS 7).bo) (evb_one (evs_ret (ev_tup (evl_cons (ev_name 3) (evl_cons (ev_name 4) (evl_cons (ev_name 7) (evl_cons (ev_name 5) evl_nil))))))) evb_nil)) rfl T.b_zip)
    (evb_one (evs_ret (ev_non).rv)))) (fun as Q hn hq => ?_)
  obtain ⟨r, p, p', o, ha, ha', hp, hz, rfl, q⟩ := hq
  obtain ⟨ss, c, w⟩ := ha.way 0
  obtain ⟨ss', c', w'⟩ := ha'.way 0
  refine ⟨rfl, r, p, ss, c, w, hz, rfl, rfl, r, p', ss', c', w', hz, rfl, ?_⟩
  refine forW_inv (fun ds sd => ∃ (r1 : Rw) (a b : List Int) (n : Nat) (ss ss' : List (Rw × List Int × Nat)) (c c' : Fin 26) (y3 y4 y5 y6 y7 : SV), ds = List.zipWith pairD (ss.map stepD) (ss'.map stepD) ∧ Way r1 a n ss c ∧ Way r1 b n ss' c' ∧ Prt r1 a b n o ∧
    sd = [.va r.toD, .va (intsD p), .va (intsD p'), y3, y4, y5, y6, y7]) ?_ ?_ _ _ ⟨r, p, p', 0, ss, ss', c, c', .un, .un, .un, .un, .un, rfl, w, w', hp, rfl⟩
  · rintro sd ⟨r1, a, b, n, ss, ss', c, c', y3, y4, y5, y6, y7, e, w, w', hp, rfl⟩
    have eo : o = none := by
      rcases Way.inv w with ⟨_, _, rfl⟩ | ⟨_, _, _, _, _, rfl, _, _⟩
      · exact hp.letn
      · rcases Way.inv w' with ⟨_, _, rfl⟩ | ⟨_, _, _, _, _, rfl, _, _⟩
        · exact hp.letn
        · cases e
    rw [eo] at q
    exact q
  · rintro d ds sd k hk ⟨r1, a, b, n, ss, ss', c, c', y3, y4, y5, y6, y7, e, w, w', hp, rfl⟩
    rcases Way.inv w with ⟨rfl, _, _⟩ | ⟨key1, a1, s1, ss1, rfl, rfl, st1, t1⟩
    · cases e
    rcases Way.inv w' with ⟨rfl, _, _⟩ | ⟨key2, b1, s2, ss2, rfl, rfl, st2, t2⟩
    · cases e
    obtain ⟨rfl, rfl⟩ := List.cons.inj e
    refine ⟨rfl, rfl, rfl, rfl, rfl, rfl, ?_⟩
    dsimp only
    refine ⟨⟨tup_sh key1, tup_sh key2⟩, ?_⟩
    rcases Prt.inv hp st1 st2 with ⟨rfl, hp2⟩ | ⟨ne, rfl⟩
    · obtain rfl := st1.det st2
      refine ite3 (fun h => absurd h (nqe (d := intsD key1) (by rw [show PyData.eqv (intsD key1) (intsD key1) = decide (key1 = key1) from ints_eqv key1 key1]; exact decide_eq_true rfl))) (fun _ => hk _ ⟨s1, a1, b1, n + key1.length, ss1, ss2, c, c', _, _, _, _, _, rfl, t1, t2, hp2, rfl⟩)
    · refine ite3 (fun _ => ⟨by show 4 ≤ sizeLine; decide, q⟩) (fun h => absurd ?_ h)
      show (!PyData.eqv (.tuple (key1.map PyData.int)) (.tuple (key2.map PyData.int))) = true
      rw [tup_eqv, decide_eq_false ne]
      rfl
end
theorem Prt.tell {r : Rw} {p q : List Int} {n : Nat} {o : Par} (h : Prt r p q n o) (a : AdS r p) (b : AdS r q) : o = none ∨ ∃ r' k k' m s s', o = some (r', k, k', m) ∧ skey r' k = true ∧ skey r' k' = true ∧ k ≠ k' ∧ Step r' k s ∧ Step r' k' s' := by
  cases e : o with
  | none => exact .inl rfl
  | some x =>
    obtain ⟨r', k, k', m⟩ := x
    obtain ⟨h1, h2, h3, s, s', h4, h5⟩ := Prt.ads h a b r' k k' m e
    exact .inr ⟨r', k, k', m, s, s', rfl, h1, h2, h3, h4, h5⟩
/-- whether a place is ahead of another -/
def fs_comes_ahead : FSp := fun as Q => ∃ (r : Rw) (p p' : List Int) (o : Par), AdS r p ∧ AdS r p' ∧ Prt r p p' 0 o ∧ r.nodes ≤ 100000 ∧ as = [.va r.toD, .va (intsD p), .va (intsD p')] ∧ Q (.va (.bool (ahdB o)))
theorem mo_comes_ahead : MoF fs_comes_ahead := fun as Q Q' k ⟨r, p, q, o, h1, h2, h3, h4, h5, h6⟩ => ⟨r, p, q, o, h1, h2, h3, h4, h5, k _ h6⟩
section
variable {P : Program} {w : World} {K : PySem.W.Frag} {mg : Str → Option Value} {base : Heap}
theorem ok_comes_ahead (T : Top K mg base) : FnG P w K mg base CX0 (5) T.f_comes_ahead T.d_comes_ahead ["row", "one", "other"] (PSp K 3 (fs_comes_ahead)) := by
  refine fn_data T.F_comes_ahead sc_comes_ahead (fun cdv A outer s H E hr => (evb_cons (evs_set 3 (evr_call (ok_parting T) mo_parting (hr.mono (by omega)) T.C_parting.hm T.C_parting.hk T.C_parting.hb (eva_cons (ev_name 0) (eva_cons (ev_name 1) (eva_cons (ev_name 2) eva_nil)))) sc_comes_ahead.nd)
    (evb_cons (evs_ifS (evt_isN (ev_nameS 3).bo) (evb_one (evs_ret (ev_bl).rv)) evb_nil)
    (evb_cons (evs_asg (evm_frz 3) (evg_tup (n := 4) rfl (evgs_cons (evg_name 4 sc_comes_ahead.nd) (evgs_cons (evg_name 5 sc_comes_ahead.nd) (evgs_cons (evg_name 6 sc_comes_ahead.nd) (evgs_cons (evg_name 7 sc_comes_ahead.nd) evgs_nil))))))
    (evb_cons (evs_ifS (evt_cmp (od_eq2 hr.rm.units) (evr_ixC 0 (ev_nameS 4)).cl ev_str) (evb_one (evs_ret (evr_cmp od_lt (evr_op od_shl (evr_ixC 0 (ev_nameS 5)).cl (evr_ixC 1 (ev_nameS 6)).cl).cl (evr_op od_shl (evr_ixC 0 (ev_nameS 6)).cl (evr_ixC 1 (ev_nameS 5)).cl).cl))) evb_nil)
    (evb_one (evs_ret (evr_if (evt_cmp (od_eq2 hr.rm.units) (evr_ixC 0 (ev_nameS 4)).cl ev_str) (evr_cmp od_gt (evr_ixC 0 (ev_nameS 5)).cl (evr_ixC 0 (ev_nameS 6)).cl) (evr_cmp od_lt (evr_ixC 0 (ev_nameS 5)).cl (evr_ixC 0 (ev_nameS 6)).cl))))))))) (fun as Q hn hq => ?_)
  obtain ⟨r, p, p', o, ha, ha', hp, hz, rfl, q⟩ := hq
  refine ⟨rfl, r, p, p', o, ha.ad, ha'.ad, hp, hz, rfl, ?_⟩
  rcases Prt.tell hp ha ha' with rfl | ⟨r', k, k', m, s, s', rfl, h1, h2, ne, st, st'⟩
  · exact q
  · refine ⟨rfl, ?_⟩
    simp only [ahdB] at q
    cases st with
    | join a h =>
      cases st' with
      | join b h' =>
        simp only [prtD, intsD, List.map_cons, List.map_nil]
        walk_at "rw"
        walk_at "st"
        walk_at "rw"
        exact q
    | right a =>
      cases st' with
      | right b =>
        simp only [prtD, intsD, List.map_cons, List.map_nil]
        walk_at "rw"
        walk_at "st"
        walk_at "rw"
        exact q
    | left a =>
      cases st' with
      | left b =>
        simp only [prtD, intsD, List.map_cons, List.map_nil]
        walk_at "rw"
        walk_at "st"
        walk_at "rw"
        exact q
    | mix a n h =>
      cases st' with
      | mix b n' h' =>
        simp only [prtD, intsD, List.map_cons, List.map_nil]
        simp only [skey, Bool.and_eq_true, decide_eq_true_eq] at h1 h2
        (try walk_at "rw")
        walk_at "st"
        (try walk_at "rw")
        exact ⟨cshl_ok (by omega) (by omega) (by omega) (by omega), cshl_ok (by omega) (by omega) (by omega) (by omega), q⟩
end
/-- the place beside a place -/
def fs__neighbour : FSp := fun as Q => ∃ (r : Rw) (p : List Int) (s : Bool) (ss : List (Rw × List Int × Nat)) (c : Fin 26), Way r p 0 ss c ∧ r.wf = true ∧ r.nodes ≤ 100000 ∧ p.length ≤ 1000 ∧ as = [.va r.toD, .va (intsD p), .va (.str (sideS s))] ∧ Q (.va (optD (nbP s ss)))
theorem mo__neighbour : MoF fs__neighbour := fun as Q Q' k ⟨r, p, s, ss, c, h1, h2, h3, h4, h5, h6⟩ => ⟨r, p, s, ss, c, h1, h2, h3, h4, h5, k _ h6⟩
section
variable {P : Program} {w : World} {K : PySem.W.Frag} {mg : Str → Option Value} {base : Heap}
theorem ok__neighbour (T : Top K mg base) : FnG P w K mg base CX0 (5) T.f__neighbour T.d__neighbour ["row", "place", "side"] (PSp K 3 (fs__neighbour)) := by
  refine fn_data T.F__neighbour sc__neighbour (fun cdv A outer s H E hr => (evb_cons (evs_for (evr_back (evr_call (ok_way_to T) mo_way_to (hr.mono (by omega)) T.C_way_to.hm T.C_way_to.hk T.C_way_to.hb (eva_cons (ev_name 0) (eva_cons (ev_name 1) eva_nil))).cl).m (evg_tup (n := 3) rfl (evgs_cons (evg_name 3 sc__neighbour.nd) (evgs_cons (evg_name 4 sc__neighbour.nd) (evgs_cons (evg_name 5 sc__neighbour.nd) evgs_nil)))) (evb_cons (evs_ifS (evt_cmp (od_eq2 hr.rm.units) (evr_ixC 0 (ev_nameS 3)).cl ev_str) (evb_one (evs_ret (ev_non).rv)) evb_nil)
     (evb_cons (evs_set 6 (evr_cmp (od_eq2 hr.rm.units) (evr_cmp (od_eq2 hr.rm.units) (evr_ixC 0 (ev_nameS 3)).cl ev_str).cl (evr_cmp (od_eq2 hr.rm.units) (ev_nameS 2).bo ev_str).cl) sc__neighbour.nd)
     (evb_cons (evs_set 7 (ev_tup (evl_cons (evr_op od_add (evr_ixC 0 (ev_nameS 4)).cl (evr_if (evt_tru (ev_nameS 6)) (ev_int).rv (evr_neg ev_int)).cl).cl evl_nil)) sc__neighbour.nd)
     (evb_one (evs_ifS (evt_tru (evr_call (ok__tell_a_part T) mo__tell_a_part (hr.mono (by omega)) T.C__tell_a_part.hm T.C__tell_a_part.hk T.C__tell_a_part.hb (eva_cons (ev_name 3) (eva_cons (ev_name 7) eva_nil))).cl) (evb_cons (evs_set 8 (evr_call (ok__met_first T) mo__met_first (hr.mono (by omega)) T.C__met_first.hm T.C__met_first.hk T.C__met_first.hb (eva_cons (evr_call (ok_part_at T) mo_part_at (hr.mono (by omega)) T.C_part_at.hm T.C_part_at.hk T.C_part_at.hb (eva_cons (ev_name 3) (eva_cons (ev_name 7) eva_nil))).cl (eva_cons (ev_name 2) eva_nil))) sc__neighbour.nd)
      (evb_one (evs_ret (evr_if (evt_isN (ev_nameS 8).bo) (ev_non).rv (evr_op od_add (evr_op od_add (evr_slice (ev_nameS 1) evo_none (evo_some (ev_nameS 5))).cl (ev_nameS 7)).cl (ev_nameS 8)))))) evb_nil))))) rfl)
    (evb_one (evs_ret (ev_non).rv)))) (fun as Q hn hq => ?_)
  obtain ⟨r, p, s, ss, c, w, hw, hz, hl, rfl, q⟩ := hq
  refine ⟨rfl, r, p, ss, c, w, hz, rfl, ?_⟩
  refine forW_inv (fun ds sd => ∃ (init done : List (Rw × List Int × Nat)) (y3 y4 y5 y6 y7 y8 : SV), ds = (init.map stepD).reverse ∧ ss = init ++ done ∧ nbF s done = none ∧ sd = [.va r.toD, .va (intsD p), .va (.str (sideS s)), y3, y4, y5, y6, y7, y8]) ?_ ?_ _ _ ⟨ss, [], _, _, _, _, _, _, rfl, (List.append_nil _).symm, rfl, rfl⟩
  · rintro sd ⟨init, done, y3, y4, y5, y6, y7, y8, e, e2, hn2, rfl⟩
    have : init = [] := by
      have := congrArg List.length e
      simp at this
      exact List.eq_nil_of_length_eq_zero this.symm
    subst this
    have e3 : nbP s ss = none := by unfold nbP; rw [e2, List.nil_append, hn2]; rfl
    rw [e3] at q
    exact q
  · rintro d ds2 sd k hk ⟨init, done, y3, y4, y5, y6, y7, y8, e, e2, hn2, rfl⟩
    obtain ⟨init', x, rfl⟩ : ∃ init' x, init = init' ++ [x] := by
      rcases List.eq_nil_or_concat init with rfl | ⟨a, b, rfl⟩
      · cases e
      · exact ⟨a, b, by simp⟩
    rw [List.map_append, List.reverse_append] at e
    obtain ⟨rfl, rfl⟩ := List.cons.inj e
    rw [List.append_assoc] at e2
    obtain ⟨r1, key, n1⟩ := x
    have e2 : ss = init' ++ (r1, key, n1) :: done := e2
    rw [e2] at w
    obtain ⟨pre, rest, t, ep, en, st, wt, z1, z2, dec, _⟩ := way_split init' w
    have ep : p = pre ++ (key ++ rest) := ep
    have en : n1 = pre.length := by have : n1 = 0 + pre.length := en; omega
    have st : Step r1 key t := st
    have hL : r1.isL = false := by cases st <;> rfl
    have nb1 : nbF s ((r1, key, n1) :: done) = stepF s r1 key := by show combF s r1 key (nbF s done) = _; rw [hn2]; rfl
    have nbS : ∀ o, stepF s r1 key = some o → nbP s ss = o.map (pre ++ ·) := fun o h => by
      unfold nbP
      rw [e2]
      have := dec s o (nb1.trans h)
      show (nbF s (init' ++ (r1, key, n1) :: done)).join = _
      rw [this]
      cases o <;> rfl
    refine ⟨rfl, rfl, ?_⟩
    by_cases hm : r1.isM = true
    · have e3 : stepF s r1 key = some none := by
        obtain ⟨k, rest, e⟩ : ∃ k rest, key = k :: rest := by cases st <;> exact ⟨_, _, rfl⟩
        subst e
        simp [stepF, hm]
      rw [nbS _ e3] at q
      cases r1 with
      | mix rs =>
        walk_at "rw"
        walk_at "st"
        (try walk_at "rw")
        exact q
      | _ => cases hm
    · have hm : r1.isM = false := by simpa using hm
      obtain ⟨kk, rfl⟩ := step_one st hm
      have main : (tellB r1 [bes s r1 (kk : Int)] = false ∧ nbF s ((r1, [(kk : Int)], n1) :: done) = none) ∨ (tellB r1 [bes s r1 (kk : Int)] = true ∧ Step r1 [bes s r1 (kk : Int)] (partR r1 (bes s r1 (kk : Int))) ∧ (partR r1 (bes s r1 (kk : Int))).wf = true ∧ (partR r1 (bes s r1 (kk : Int))).nodes ≤ 100000 ∧
          (((partR r1 (bes s r1 (kk : Int))).ep s = none ∧ nbP s ss = none) ∨ ∃ e, (partR r1 (bes s r1 (kk : Int))).ep s = some e ∧ nbP s ss = some (pre ++ bes s r1 (kk : Int) :: e) ∧ e.length ≤ 100000)) := by
        cases ht : tellB r1 [bes s r1 (kk : Int)] with
        | false => exact .inl ⟨rfl, by rw [nb1]; simp [stepF, hm, ht]⟩
        | true =>
          have st' := tell_step st hm ht
          have hno := st'.nodes
          have z1 : r1.nodes ≤ r.nodes := z1
          refine .inr ⟨rfl, st', st'.wf (z2 hw), by omega, ?_⟩
          have e3 : stepF s r1 [(kk : Int)] = some (((partR r1 (bes s r1 (kk : Int))).ep s).map (bes s r1 (kk : Int) :: ·)) := by simp [stepF, hm, ht]
          have e4 := nbS _ e3
          cases he : (partR r1 (bes s r1 (kk : Int))).ep s with
          | none => rw [he] at e4; exact .inl ⟨rfl, e4⟩
          | some e =>
            rw [he] at e4
            have := (ep_sm _ he).2
            have := dep_nodes (partR r1 (bes s r1 (kk : Int)))
            exact .inr ⟨e, rfl, e4, by omega⟩
      have hz1 : r1.nodes ≤ 100000 := by have : r1.nodes ≤ r.nodes := z1; omega
      have hp1 : pre.length ≤ 1000 := by rw [ep, List.length_append] at hl; omega
      have en : n1 = pre.length := by have : n1 = 0 + pre.length := en; omega
      subst en
      have lsz : 200000 ≤ sizeLine := by decide
      clear e dec nb1 nbS z1 z2 wt
      cases s
      · simp only [sideS]
        cases st with
        | join i hi =>
          have eb : ∀ r' : Rw, r'.isLf = false → bes false r' (kk : Int) = (kk : Int) + 1 := fun r' h => by unfold bes; rw [h]; rfl
          rw [eb _ rfl] at main
          walk_at "rw"
          walk_at "st"
          (try walk_at "rw")
          rcases main with ⟨h1, h2⟩ | ⟨h1, h3, h4, h5, ⟨h6, h7⟩ | ⟨e, h6, h7, h8⟩⟩
          · refine ⟨by decide, (.join _), [(kk : Int) + 1], rfl, rfl, ?_⟩
            rw [h1]
            exact hk _ ⟨init', _ :: done, _, _, _, _, _, _, rfl, e2, h2, rfl⟩
          · refine ⟨by decide, (.join _), [(kk : Int) + 1], rfl, rfl, ?_⟩
            rw [h1]
            refine ⟨_, _, [(kk : Int) + 1], h3, hz1, rfl, _, false, h4, h5, rfl, ?_⟩
            rw [h6]
            rw [h7] at q
            exact q
          · refine ⟨by decide, (.join _), [(kk : Int) + 1], rfl, rfl, ?_⟩
            rw [h1]
            refine ⟨_, _, [(kk : Int) + 1], h3, hz1, rfl, _, false, h4, h5, rfl, ?_⟩
            rw [h6]
            rw [h7] at q
            have q : Q (.va (.tuple ((pre ++ ((kk : Int) + 1) :: e).map PyData.int))) := q
            rw [List.map_append, List.map_cons] at q
            have ec : cutD (p.map PyData.int) none (some (pre.length : Int)) = pre.map PyData.int := by rw [ep]; exact cut_preI pre _
            show (cutD (p.map PyData.int) none (some (pre.length : Int))).length + 1 ≤ sizeLine ∧ ((cutD (p.map PyData.int) none (some (pre.length : Int))) ++ [PyData.int ((kk : Int) + 1)]).length + (e.map PyData.int).length ≤ sizeLine ∧ Q (.va (.tuple (((cutD (p.map PyData.int) none (some (pre.length : Int))) ++ [PyData.int ((kk : Int) + 1)]) ++ e.map PyData.int)))
            rw [ec, List.append_assoc]
            refine ⟨by rw [List.length_map]; omega, by rw [List.length_append, List.length_map, List.length_map, List.length_singleton]; omega, q⟩
        | right i =>
          have eb : ∀ r' : Rw, r'.isLf = false → bes false r' (kk : Int) = (kk : Int) + 1 := fun r' h => by unfold bes; rw [h]; rfl
          rw [eb _ rfl] at main
          walk_at "rw"
          walk_at "st"
          (try walk_at "rw")
          rcases main with ⟨h1, h2⟩ | ⟨h1, h3, h4, h5, ⟨h6, h7⟩ | ⟨e, h6, h7, h8⟩⟩
          · refine ⟨by decide, (.right _), [(kk : Int) + 1], rfl, rfl, ?_⟩
            rw [h1]
            exact hk _ ⟨init', _ :: done, _, _, _, _, _, _, rfl, e2, h2, rfl⟩
          · refine ⟨by decide, (.right _), [(kk : Int) + 1], rfl, rfl, ?_⟩
            rw [h1]
            refine ⟨_, _, [(kk : Int) + 1], h3, hz1, rfl, _, false, h4, h5, rfl, ?_⟩
            rw [h6]
            rw [h7] at q
            exact q
          · refine ⟨by decide, (.right _), [(kk : Int) + 1], rfl, rfl, ?_⟩
            rw [h1]
            refine ⟨_, _, [(kk : Int) + 1], h3, hz1, rfl, _, false, h4, h5, rfl, ?_⟩
            rw [h6]
            rw [h7] at q
            have q : Q (.va (.tuple ((pre ++ ((kk : Int) + 1) :: e).map PyData.int))) := q
            rw [List.map_append, List.map_cons] at q
            have ec : cutD (p.map PyData.int) none (some (pre.length : Int)) = pre.map PyData.int := by rw [ep]; exact cut_preI pre _
            show (cutD (p.map PyData.int) none (some (pre.length : Int))).length + 1 ≤ sizeLine ∧ ((cutD (p.map PyData.int) none (some (pre.length : Int))) ++ [PyData.int ((kk : Int) + 1)]).length + (e.map PyData.int).length ≤ sizeLine ∧ Q (.va (.tuple (((cutD (p.map PyData.int) none (some (pre.length : Int))) ++ [PyData.int ((kk : Int) + 1)]) ++ e.map PyData.int)))
            rw [ec, List.append_assoc]
            refine ⟨by rw [List.length_map]; omega, by rw [List.length_append, List.length_map, List.length_map, List.length_singleton]; omega, q⟩
        | left i =>
          have eb : ∀ r' : Rw, r'.isLf = true → bes false r' (kk : Int) = (kk : Int) + -1 := fun r' h => by unfold bes; rw [h]; show (kk : Int) - 1 = _; omega
          rw [eb _ rfl] at main
          walk_at "rw"
          walk_at "st"
          (try walk_at "rw")
          rcases main with ⟨h1, h2⟩ | ⟨h1, h3, h4, h5, ⟨h6, h7⟩ | ⟨e, h6, h7, h8⟩⟩
          · refine ⟨by decide, (.left _), [(kk : Int) + -1], rfl, rfl, ?_⟩
            rw [h1]
            exact hk _ ⟨init', _ :: done, _, _, _, _, _, _, rfl, e2, h2, rfl⟩
          · refine ⟨by decide, (.left _), [(kk : Int) + -1], rfl, rfl, ?_⟩
            rw [h1]
            refine ⟨_, _, [(kk : Int) + -1], h3, hz1, rfl, _, false, h4, h5, rfl, ?_⟩
            rw [h6]
            rw [h7] at q
            exact q
          · refine ⟨by decide, (.left _), [(kk : Int) + -1], rfl, rfl, ?_⟩
            rw [h1]
            refine ⟨_, _, [(kk : Int) + -1], h3, hz1, rfl, _, false, h4, h5, rfl, ?_⟩
            rw [h6]
            rw [h7] at q
            have q : Q (.va (.tuple ((pre ++ ((kk : Int) + -1) :: e).map PyData.int))) := q
            rw [List.map_append, List.map_cons] at q
            have ec : cutD (p.map PyData.int) none (some (pre.length : Int)) = pre.map PyData.int := by rw [ep]; exact cut_preI pre _
            show (cutD (p.map PyData.int) none (some (pre.length : Int))).length + 1 ≤ sizeLine ∧ ((cutD (p.map PyData.int) none (some (pre.length : Int))) ++ [PyData.int ((kk : Int) + -1)]).length + (e.map PyData.int).length ≤ sizeLine ∧ Q (.va (.tuple (((cutD (p.map PyData.int) none (some (pre.length : Int))) ++ [PyData.int ((kk : Int) + -1)]) ++ e.map PyData.int)))
            rw [ec, List.append_assoc]
            refine ⟨by rw [List.length_map]; omega, by rw [List.length_append, List.length_map, List.length_map, List.length_singleton]; omega, q⟩
      · simp only [sideS]
        cases st with
        | join i hi =>
          have eb : ∀ r' : Rw, r'.isLf = false → bes true r' (kk : Int) = (kk : Int) + -1 := fun r' h => by unfold bes; rw [h]; show (kk : Int) - 1 = _; omega
          rw [eb _ rfl] at main
          walk_at "rw"
          walk_at "st"
          (try walk_at "rw")
          rcases main with ⟨h1, h2⟩ | ⟨h1, h3, h4, h5, ⟨h6, h7⟩ | ⟨e, h6, h7, h8⟩⟩
          · refine ⟨by decide, (.join _), [(kk : Int) + -1], rfl, rfl, ?_⟩
            rw [h1]
            exact hk _ ⟨init', _ :: done, _, _, _, _, _, _, rfl, e2, h2, rfl⟩
          · refine ⟨by decide, (.join _), [(kk : Int) + -1], rfl, rfl, ?_⟩
            rw [h1]
            refine ⟨_, _, [(kk : Int) + -1], h3, hz1, rfl, _, true, h4, h5, rfl, ?_⟩
            rw [h6]
            rw [h7] at q
            exact q
          · refine ⟨by decide, (.join _), [(kk : Int) + -1], rfl, rfl, ?_⟩
            rw [h1]
            refine ⟨_, _, [(kk : Int) + -1], h3, hz1, rfl, _, true, h4, h5, rfl, ?_⟩
            rw [h6]
            rw [h7] at q
            have q : Q (.va (.tuple ((pre ++ ((kk : Int) + -1) :: e).map PyData.int))) := q
            rw [List.map_append, List.map_cons] at q
            have ec : cutD (p.map PyData.int) none (some (pre.length : Int)) = pre.map PyData.int := by rw [ep]; exact cut_preI pre _
            show (cutD (p.map PyData.int) none (some (pre.length : Int))).length + 1 ≤ sizeLine ∧ ((cutD (p.map PyData.int) none (some (pre.length : Int))) ++ [PyData.int ((kk : Int) + -1)]).length + (e.map PyData.int).length ≤ sizeLine ∧ Q (.va (.tuple (((cutD (p.map PyData.int) none (some (pre.length : Int))) ++ [PyData.int ((kk : Int) + -1)]) ++ e.map PyData.int)))
            rw [ec, List.append_assoc]
            refine ⟨by rw [List.length_map]; omega, by rw [List.length_append, List.length_map, List.length_map, List.length_singleton]; omega, q⟩
        | right i =>
          have eb : ∀ r' : Rw, r'.isLf = false → bes true r' (kk : Int) = (kk : Int) + -1 := fun r' h => by unfold bes; rw [h]; show (kk : Int) - 1 = _; omega
          rw [eb _ rfl] at main
          walk_at "rw"
          walk_at "st"
          (try walk_at "rw")
          rcases main with ⟨h1, h2⟩ | ⟨h1, h3, h4, h5, ⟨h6, h7⟩ | ⟨e, h6, h7, h8⟩⟩
          · refine ⟨by decide, (.right _), [(kk : Int) + -1], rfl, rfl, ?_⟩
            rw [h1]
            exact hk _ ⟨init', _ :: done, _, _, _, _, _, _, rfl, e2, h2, rfl⟩
          · refine ⟨by decide, (.right _), [(kk : Int) + -1], rfl, rfl, ?_⟩
            rw [h1]
            refine ⟨_, _, [(kk : Int) + -1], h3, hz1, rfl, _, true, h4, h5, rfl, ?_⟩
            rw [h6]
            rw [h7] at q
            exact q
          · refine ⟨by decide, (.right _), [(kk : Int) + -1], rfl, rfl, ?_⟩
            rw [h1]
            refine ⟨_, _, [(kk : Int) + -1], h3, hz1, rfl, _, true, h4, h5, rfl, ?_⟩
            rw [h6]
            rw [h7] at q
            have q : Q (.va (.tuple ((pre ++ ((kk : Int) + -1) :: e).map PyData.int))) := q
            rw [List.map_append, List.map_cons] at q
            have ec : cutD (p.map PyData.int) none (some (pre.length : Int)) = pre.map PyData.int := by rw [ep]; exact cut_preI pre _
            show (cutD (p.map PyData.int) none (some (pre.length : Int))).length + 1 ≤ sizeLine ∧ ((cutD (p.map PyData.int) none (some (pre.length : Int))) ++ [PyData.int ((kk : Int) + -1)]).length + (e.map PyData.int).length ≤ sizeLine ∧ Q (.va (.tuple (((cutD (p.map PyData.int) none (some (pre.length : Int))) ++ [PyData.int ((kk : Int) + -1)]) ++ e.map PyData.int)))
            rw [ec, List.append_assoc]
            refine ⟨by rw [List.length_map]; omega, by rw [List.length_append, List.length_map, List.length_map, List.length_singleton]; omega, q⟩
        | left i =>
          have eb : ∀ r' : Rw, r'.isLf = true → bes true r' (kk : Int) = (kk : Int) + 1 := fun r' h => by unfold bes; rw [h]; rfl
          rw [eb _ rfl] at main
          walk_at "rw"
          walk_at "st"
          (try walk_at "rw")
          rcases main with ⟨h1, h2⟩ | ⟨h1, h3, h4, h5, ⟨h6, h7⟩ | ⟨e, h6, h7, h8⟩⟩
          · refine ⟨by decide, (.left _), [(kk : Int) + 1], rfl, rfl, ?_⟩
            rw [h1]
            exact hk _ ⟨init', _ :: done, _, _, _, _, _, _, rfl, e2, h2, rfl⟩
          · refine ⟨by decide, (.left _), [(kk : Int) + 1], rfl, rfl, ?_⟩
            rw [h1]
            refine ⟨_, _, [(kk : Int) + 1], h3, hz1, rfl, _, true, h4, h5, rfl, ?_⟩
            rw [h6]
            rw [h7] at q
            exact q
          · refine ⟨by decide, (.left _), [(kk : Int) + 1], rfl, rfl, ?_⟩
            rw [h1]
            refine ⟨_, _, [(kk : Int) + 1], h3, hz1, rfl, _, true, h4, h5, rfl, ?_⟩
            rw [h6]
            rw [h7] at q
            have q : Q (.va (.tuple ((pre ++ ((kk : Int) + 1) :: e).map PyData.int))) := q
            rw [List.map_append, List.map_cons] at q
            have ec : cutD (p.map PyData.int) none (some (pre.length : Int)) = pre.map PyData.int := by rw [ep]; exact cut_preI pre _
            show (cutD (p.map PyData.int) none (some (pre.length : Int))).length + 1 ≤ sizeLine ∧ ((cutD (p.map PyData.int) none (some (pre.length : Int))) ++ [PyData.int ((kk : Int) + 1)]).length + (e.map PyData.int).length ≤ sizeLine ∧ Q (.va (.tuple (((cutD (p.map PyData.int) none (some (pre.length : Int))) ++ [PyData.int ((kk : Int) + 1)]) ++ e.map PyData.int)))
            rw [ec, List.append_assoc]
            refine ⟨by rw [List.length_map]; omega, by rw [List.length_append, List.length_map, List.length_map, List.length_singleton]; omega, q⟩
end
def fs_next_place : FSp := fun as Q => ∃ (r : Rw) (p : List Int) (ss : List (Rw × List Int × Nat)) (c : Fin 26), Way r p 0 ss c ∧ r.wf = true ∧ r.nodes ≤ 100000 ∧ p.length ≤ 1000 ∧ as = [.va r.toD, .va (intsD p)] ∧ Q (.va (optD (nbP false ss)))
theorem mo_next_place : MoF fs_next_place := fun as Q Q' k ⟨r, p, ss, c, h1, h2, h3, h4, h5, h6⟩ => ⟨r, p, ss, c, h1, h2, h3, h4, h5, k _ h6⟩
section
variable {P : Program} {w : World} {K : PySem.W.Frag} {mg : Str → Option Value} {base : Heap}
theorem ok_next_place (T : Top K mg base) : FnG P w K mg base CX0 (6) T.f_next_place T.d_next_place ["row", "place"] (PSp K 2 (fs_next_place)) := by
  refine fn_data T.F_next_place sc_next_place (fun cdv A outer s H E hr => (evb_one (evs_ret (evr_call (ok__neighbour T) mo__neighbour (hr.mono (by omega)) T.C__neighbour.hm T.C__neighbour.hk T.C__neighbour.hb (eva_cons (ev_name 0) (eva_cons (ev_name 1) (eva_cons ev_str eva_nil))))))) (fun as Q hn hq => ?_)
  obtain ⟨r, p, ss, c, w, hw, hz, hl, rfl, q⟩ := hq
  exact ⟨rfl, r, p, false, ss, c, w, hw, hz, hl, rfl, q⟩
end
end K17

set_option Elab.async false
set_option linter.all false
set_option maxRecDepth 100000
set_option maxHeartbeats 400000
namespace K17
open PySem PySem.Spec PyProof.Rows L2 DL
variable [Tb]
local macro_rules | `(tactic| walk_at "rw") => `(tactic| simp only [d01, d0m, dm0, d10, Rw.toD, rdIn, wds, flatD, List.all_cons, List.all_nil, dw, Bool.true_or, Bool.false_or, Bool.or_false, Bool.or_true, Bool.true_and, Bool.and_true, Bool.false_and, Bool.and_false, Bool.not_true, Bool.not_false, decide_true, decide_false, true_and, and_true, if_true, if_false, Bool.false_eq_true, reduceIte, Nat.zero_add, Nat.reduceAdd, ite_self, wJR, wJL, wJM, wRJ, wRL, wRM, wLJ, wLR, wLM, wMJ, wMR, wML])
local macro_rules | `(tactic| walk_at "st") => `(tactic| simp only [wBo, w2, rdEq2, wNameS, wName, wC, wPart, startD, List.map_cons, List.map_nil, List.cons_append, List.nil_append, getS, AV.sv, rd1, List.length_cons, List.length_nil, List.replicate, endE, frzD, List.set, wOr, wAnd, wNot, wTru, wIs, wIf, wAndV, wOrV, wNotV, wIxC, wNeg, dat_va, dat_fr, sv_va, sv_fr, gtName, gtCons, gtNil, gtTup, wFrz, wBack, wIfS, wAugI, wPar3, wIsN, if_true, if_false, Bool.false_eq_true, Bool.not_true, Bool.not_false, decide_true, decide_false, Nat.sub_zero, Nat.succ_sub_succ_eq_sub, ite_true, ite_false, reduceIte, true_and, and_true, Nat.zero_add, Nat.reduceAdd, qisStrD_str, qisStrD_tup, qisStrD_lst, qisStrD_int, qisStrD_bl, qisStrD_non, qisStrD_dct, qisTupD_str, qisTupD_tup, qisTupD_lst, qisTupD_int, qisTupD_bl, qisTupD_non, qisTupD_dct, qisLstD_str, qisLstD_tup, qisLstD_lst, qisLstD_int, qisLstD_bl, qisLstD_non, qisLstD_dct, qisDctD_str, qisDctD_tup, qisDctD_lst, qisDctD_int, qisDctD_bl, qisDctD_non, qisDctD_dct, qisBooD_str, qisBooD_tup, qisBooD_lst, qisBooD_int, qisBooD_bl, qisBooD_non, qisBooD_dct, qisIntD_str, qisIntD_tup, qisIntD_lst, qisIntD_int, qisIntD_bl, qisIntD_non, qisIntD_dct, qAddI, qAddS, qAddT, qAddL, qInt, qSlT, qSlL, qSlS, qEqI, qEqS, qEqB, qEqN, qEqT, qEqL, qIxT0, qIxT1, qIxT2, qIxL0, qIxL1, qLenT, qLenL, qLenS, qTupT, qTupL, qLstT, qLstL, qIt, qItL, qIntI, qBl, qTrT, qTrL, qTrI, qTrN, qNoN, qNoT, qNoL, qNoI, qNoS])
local macro_rules | `(tactic| walk_at "run") => `(tactic| ((try walk_at "rw"); (try walk_at "st"); (try walk_at "rw")))
local macro_rules | `(tactic| walk_at "dl") => `(tactic| simp only [wBo, w2, rdEq2, dEq, wNameS, wName, wC, startD, List.map_cons, List.map_nil, List.cons_append, List.nil_append, getS, AV.sv, rd1, List.length_cons, List.length_nil, List.replicate, endE, frzD, wBack, List.set, wOr, wAnd, wNot, wTru, wIs, wIf, wAndV, wOrV, wNotV, wIxC, ixC, nthD, dLen, dTuple, dList, dat_va, dat_fr, sv_va, sv_fr, gtName, gtCons, gtNil, gtTup, truD, wFrz, wIfS, if_true, if_false, Bool.false_eq_true, isStrD, isTupD, isLstD, isBooD, isIntD, isDctD, Bool.not_true, Bool.not_false, decide_true, decide_false, Nat.sub_zero, Nat.succ_sub_succ_eq_sub, ite_true, ite_false, reduceIte, true_and, and_true])

/-- letters as one text -/
def letS (ls : List (Fin 26)) : Str := ⟨(ls.map fun c => 97 + c.val).toArray⟩
/-- a row of at most k steps is drawn, k below n and below 6 -/
def fs__law_draw_row (n : Nat) : FSp := fun as Q => ∃ (ls : List (Fin 26)) (k : Nat), as = [.so, .va (.str (letS ls)), .va (.int k)] ∧ 0 < ls.length ∧ ls.length ≤ 26 ∧ k < n ∧ k < 6 ∧
  ∀ r : Rw, r.dep ≤ k → r.nodes ≤ 4 ^ k → r.wf = true → Q (.va r.toD)
theorem mo__law_draw_row (n : Nat) : MoF (fs__law_draw_row n) := fun as Q Q' k ⟨ls, m, h1, h2, h3, h4, h5, h6⟩ => ⟨ls, m, h1, h2, h3, h4, h5, fun r a b c => k _ (h6 r a b c)⟩
theorem no__law_draw_row (as : List AV) (Q : RV → Prop) (h : fs__law_draw_row 0 as Q) : False := by
  obtain ⟨_, _, _, _, _, z, _⟩ := h
  exact Nat.not_lt_zero _ z
theorem al_rows {a b : Nat} : ∀ {ds out : List PyData}, Al (fun _ e => ∃ r : Rw, e = r.toD ∧ r.dep ≤ a ∧ r.nodes ≤ b ∧ r.wf = true) ds out → ∃ rs : List Rw, out = rs.map Rw.toD ∧ rs.length = ds.length ∧ Rw.depL rs ≤ a ∧ Rw.nodesL rs ≤ rs.length * b ∧ Rw.wfL rs = true
  | _, _, .nil => ⟨[], rfl, rfl, Nat.zero_le _, by simp only [Rw.nodesL]; omega, rfl⟩
  | _, _, .cons ⟨r, e, h1, h2, hw⟩ t => by
    obtain ⟨rs, e2, h3, h4, h5, h6⟩ := al_rows t
    refine ⟨r :: rs, by rw [e, e2]; rfl, by simp only [List.length_cons, h3], by simp only [Rw.depL]; omega, ?_, by simp only [Rw.wfL, hw, h6, Bool.and_self]⟩
    simp only [Rw.nodesL, List.length_cons, Nat.succ_mul, Nat.add_mul, Nat.one_mul]
    omega
theorem pk {m : Int} {Q2 : RV → Prop} (h1 : m < 2 ^ 20) (h2 : ∀ r : Int, 0 ≤ r → (r < m ∨ r = 0) → Q2 (.va (.int r))) : fsPick [.so, .va (.int m)] Q2 := ⟨by
  have : (2 : Int) ^ 20 = 1048576 := by decide
  omega, h2⟩
section
variable {P : Program} {w : World} {K : PySem.W.Frag} {mg : Str → Option Value} {base : Heap}
theorem ok__law_draw_row (T : Top K mg base) : ∀ n : Nat, FnG P w K mg base CX0 (n + 1) T.f__law_draw_row T.d__law_draw_row ["_law_source", "_law_letters", "_law_most"] (PSp K 3 (fs__law_draw_row n))
  | 0 => (FnG.no.mono (Nat.zero_le _)).imp fun vs H Q E ⟨S, Oc, as, h1, h2, h3, h4, h5, h6⟩ => (no__law_draw_row as _ h6).elim
  | n + 1 => by
    have G := ok__law_draw_row T n
    refine FnG.mono (j := (n + 1) + 1) (fn_data T.F__law_draw_row sc__law_draw_row (fun cdv A outer s H E hr => (evb_cons (evs_set 3 (evr_if (evt_cmp od_gt (ev_nameS 2) ev_int) (evr_call (ok__law_pick T) mo__law_pick (hr.mono (by omega)) T.C__law_pick.hm T.C__law_pick.hk T.C__law_pick.hb (eva_so 0 (eva_cons ev_int eva_nil))) (ev_int).rv) sc__law_draw_row.nd)
    (evb_cons (evs_ifS (evt_cmp od_lt (ev_nameS 3) ev_int) (evb_one (evs_ret (evr_ix (id_ix hr.rm.units) (ev_nameS 1) (evr_call (ok__law_pick T) mo__law_pick (hr.mono (by omega)) T.C__law_pick.hm T.C__law_pick.hk T.C__law_pick.hb (eva_so 0 (eva_cons (evr_blt cd_len T.b_len (by decide +kernel) (evl_cons (ev_nameS 1) evl_nil)).cl eva_nil))).cl))) evb_nil)
    (evb_cons (evs_ifS (evt_cmp (od_eq2 hr.rm.units) (ev_nameS 3).bo ev_int) (evb_one (evs_ret (ev_tup (evl_cons ev_str (evl_cons (evr_call G (mo__law_draw_row n) (hr.mono (by omega)) T.C__law_draw_row.hm T.C__law_draw_row.hk T.C__law_draw_row.hb (eva_so 0 (eva_cons (ev_name 1) (eva_cons (evr_op od_sub (ev_nameS 2) ev_int).cl eva_nil)))).cl evl_nil))))) evb_nil)
    (evb_cons (evs_ifS (evt_cmp (od_eq2 hr.rm.units) (ev_nameS 3).bo ev_int) (evb_one (evs_ret (ev_tup (evl_cons ev_str (evl_cons (evr_call G (mo__law_draw_row n) (hr.mono (by omega)) T.C__law_draw_row.hm T.C__law_draw_row.hk T.C__law_draw_row.hb (eva_so 0 (eva_cons (ev_name 1) (eva_cons (evr_op od_sub (ev_nameS 2) ev_int).cl eva_nil)))).cl evl_nil))))) evb_nil)
    (evb_cons (evs_set 4 (evr_if (evt_cmp (od_eq2 hr.rm.units) (ev_nameS 3).bo ev_int) (evr_ix (id_ix hr.rm.units) (ev_lst (evl_cons ev_int (evl_cons ev_int (evl_cons ev_int evl_nil)))).cl (evr_call (ok__law_pick T) mo__law_pick (hr.mono (by omega)) T.C__law_pick.hm T.C__law_pick.hk T.C__law_pick.hb (eva_so 0 (eva_cons ev_int eva_nil))).cl) (evr_op od_add ev_int (evr_call (ok__law_pick T) mo__law_pick (hr.mono (by omega)) T.C__law_pick.hm T.C__law_pick.hk T.C__law_pick.hb (eva_so 0 (eva_cons ev_int eva_nil))).cl)) sc__law_draw_row.nd)
    (evb_one (evs_ret (ev_tup (evl_cons (evr_ix (id_ix hr.rm.units) (ev_lst (evl_cons ev_str (evl_cons ev_str evl_nil))).cl (evr_op od_sub (ev_nameS 3) ev_int).cl).cl (evl_cons (evr_typ cd_tuple T.b_tuple (by decide +kernel) (evl_cons ((evc_lcR (own := [("_law_k", 5)]) (ev_nameS 4) (blkOk_by (N := ["_law_source", "_law_letters", "_law_most", "_law_road", "_law_many_here", "_law_k"]) (sc := defScope s__law_draw_row) (by decide +kernel)) T.b_range (fun _ _ _ _ _ => (evg_name 5 sc__law_draw_row.nd)) (fun _ _ _ _ _ => evi_nil) (fun _ _ _ _ _ => (evr_call G (mo__law_draw_row n) (hr.mono (by omega)) T.C__law_draw_row.hm T.C__law_draw_row.hk T.C__law_draw_row.hb (eva_so 0 (eva_cons (ev_name 1) (eva_cons (evr_op od_sub (ev_nameS 2) ev_int).cl eva_nil)))))).rv rfl sc__law_draw_row.nd).cl evl_nil)).cl evl_nil))))))))))) (fun as Q hn hq => ?_)) (by omega)
    obtain ⟨ls, k, rfl, hl0, hl, hk, hk6, q⟩ := hq
    have kI : (0 : Int) ≤ k := Int.natCast_nonneg k
    show wIf _ _ _ _ _
    refine bind_of (fun z => ∃ i : Int, z = .va (.int i) ∧ 0 ≤ i ∧ i < 6 ∧ (2 ≤ i → 0 < k)) (fun Q1 q1 => ?_) ?_
    · refine ⟨trivial, ite3 (fun h => ?_) (fun h => ?_)⟩
      · have hk0 : (0 : Int) < k := of_decide_eq_true h
        exact ⟨rfl, pk (by decide) fun r h0 h1 => q1 _ ⟨r, rfl, h0, by omega, fun _ => by omega⟩⟩
      · exact q1 _ ⟨0, rfl, by omega, by omega, fun z => by omega⟩
    rintro _ ⟨i, rfl, i0, i6, ik⟩
    refine ⟨trivial, ite3 (fun h => ?_) (fun h => ?_)⟩
    · have sz : (letS ls).length = ls.length := by
        show ((ls.map fun c => 97 + c.val).toArray).size = _
        simp
      refine ⟨by rw [sz, sizeLine_eq]; omega, rfl, pk (by rw [sz]; omega) fun r h0 h1 => ⟨by rw [sz, sizeLine_eq]; omega, ?_⟩⟩
      rw [sz] at h1
      obtain ⟨j, rfl⟩ := Int.eq_ofNat_of_zero_le h0
      have hj : j < ls.length := by omega
      have e : atI (letS ls).cps.toList (j : Int) = some (97 + ls[j].val) := by
        refine L2.atI_nat ?_
        show (ls.map fun c => 97 + c.val)[j]? = _
        rw [List.getElem?_map, List.getElem?_eq_getElem hj]
        rfl
      show match atI (letS ls).cps.toList (j : Int) with | some c => _ | none => _
      rw [e]
      exact q (.let ls[j]) (Nat.zero_le _) (by simp only [Rw.nodes]; exact Nat.pow_pos (by decide)) rfl
    have h2 : 2 ≤ i := by
      have : ¬ i < 2 := fun z => h (decide_eq_true z)
      omega
    have k0 := ik h2
    have p4 : 4 ^ k = 4 * 4 ^ (k - 1) := by
      have e : k = (k - 1) + 1 := by omega
      rw [e, Nat.pow_succ, Nat.add_sub_cancel]
      omega
    have p1 : 1 ≤ 4 ^ (k - 1) := Nat.pow_pos (by decide)
    have ek : ((k : Int) - 1) = ((k - 1 : Nat) : Int) := by omega
    refine ite3 (fun h => ?_) (fun h_2 => ?_)
    · refine ⟨trivial, rfl, ls, k - 1, by rw [← ek], hl0, hl, by omega, by omega, fun r d1 d2 d3 => ⟨sl2, ?_⟩⟩
      refine q (.right r) ?_ ?_ (by simp only [Rw.wf]; exact d3)
      · simp only [Rw.dep]; omega
      · simp only [Rw.nodes]; omega
    refine ite3 (fun h => ?_) (fun h => ?_)
    · refine ⟨trivial, rfl, ls, k - 1, by rw [← ek], hl0, hl, by omega, by omega, fun r d1 d2 d3 => ⟨sl2, ?_⟩⟩
      refine q (.left r) ?_ ?_ (by simp only [Rw.wf]; exact d3)
      · simp only [Rw.dep]; omega
      · simp only [Rw.nodes]; omega
    have n2 : i ≠ 2 := fun z => h_2 (by subst z; rfl)
    have n3 : i ≠ 3 := fun z => h (by subst z; rfl)
    dsimp only
    show wIf _ _ _ _ _
    refine bind_of (fun z => ∃ m : Int, z = .va (.int m) ∧ 1 ≤ m ∧ m ≤ 3 ∧ (i = 4 → 2 ≤ m)) (fun Q1 q1 => ?_) ?_
    · refine ite3 (fun h => ?_) (fun h => ?_)
      · refine ⟨by show 3 ≤ sizeLine; decide, rfl, pk (by decide) fun r h0 h1 => ?_⟩
        have : r = 0 ∨ r = 1 ∨ r = 2 := by omega
        rcases this with rfl | rfl | rfl
        · exact q1 _ ⟨2, rfl, by decide, by decide, fun _ => by decide⟩
        · exact q1 _ ⟨2, rfl, by decide, by decide, fun _ => by decide⟩
        · exact q1 _ ⟨3, rfl, by decide, by decide, fun _ => by decide⟩
      · have h4 : i ≠ 4 := fun z => h (by subst z; rfl)
        refine ⟨rfl, pk (by decide) fun r h0 h1 => ?_⟩
        exact q1 _ ⟨1 + r, rfl, by omega, by omega, fun z => absurd z h4⟩
    rintro _ ⟨m, rfl, m1, m3, m4⟩
    have fin : ∀ (wd : Str) (mk : List Rw → Rw) (lo : Nat), (lo : Int) ≤ m → (∀ rs, (mk rs).toD = .tuple [.str wd, .tuple (Rw.toDs rs)]) → (∀ rs, (mk rs).dep = Rw.depL rs + 1) → (∀ rs, (mk rs).nodes = 1 + Rw.nodesL rs) → (∀ rs, (mk rs).wf = (decide (lo ≤ rs.length) && Rw.wfL rs)) →
        ∀ out, Al (fun _ e => ∃ r : Rw, e = r.toD ∧ r.dep ≤ k - 1 ∧ r.nodes ≤ 4 ^ (k - 1) ∧ r.wf = true) (rangeD 0 m.toNat) out → Q (.va (.tuple [.str wd, .tuple out])) := by
      intro wd mk lo hlo e1 e2 e3 e4 out ho
      obtain ⟨rs, rfl, hlen, hd, hn, hw⟩ := al_rows ho
      have hm : rs.length = m.toNat := by
        rw [hlen]
        show ((List.range m.toNat).map _).length = _
        rw [List.length_map, List.length_range]
      rw [← Rw.toDs_eq, ← e1]
      refine q (mk rs) ?_ ?_ ?_
      · rw [e2]; omega
      · rw [e3]
        have : rs.length * 4 ^ (k - 1) ≤ 3 * 4 ^ (k - 1) := Nat.mul_le_mul_right _ (by omega)
        omega
      · rw [e4, hw, Bool.and_true]; exact decide_eq_true (by omega)
    have each : ∀ (d : PyData) (A : PyData → Prop) (B : Prop), (∀ x, (∃ r : Rw, x = r.toD ∧ r.dep ≤ k - 1 ∧ r.nodes ≤ 4 ^ (k - 1) ∧ r.wf = true) → A x) → fs__law_draw_row n [.so, .va (.str (letS ls)), .va (.int ((k : Int) - 1))] (fun z => A z.dat) :=
      fun d A B hA => ⟨ls, k - 1, by rw [← ek], hl0, hl, by omega, by omega, fun r d1 d2 d3 => hA _ ⟨r, rfl, d1, d2, d3⟩⟩
    have i45 : i = 4 ∨ i = 5 := by omega
    have mb : -(2 ^ 62) ≤ m ∧ m < 2 ^ 62 := by omega
    have mc : m ≤ 1000000 := by omega
    rcases i45 with rfl | rfl
    · refine ⟨sl2, trivial, mb, ⟨rfl, mc⟩, lcW_each _ _ _ (fun d _ A B hA => ⟨trivial, rfl, each d A B hA⟩) fun out ho => ⟨sl2, ?_⟩⟩
      exact fin sJ .join 2 (m4 rfl) (fun rs => by simp only [Rw.toD]) (fun rs => by simp only [Rw.dep]) (fun rs => by simp only [Rw.nodes]) (fun rs => by simp only [Rw.wf]) out ho
    · refine ⟨sl2, trivial, mb, ⟨rfl, mc⟩, lcW_each _ _ _ (fun d _ A B hA => ⟨trivial, rfl, each d A B hA⟩) fun out ho => ⟨sl2, ?_⟩⟩
      exact fin sM .mix 1 (by omega) (fun rs => by simp only [Rw.toD]) (fun rs => by simp only [Rw.dep]) (fun rs => by simp only [Rw.nodes]) (fun rs => by simp only [Rw.wf]) out ho
end
end K17

set_option Elab.async false
set_option linter.all false
set_option maxRecDepth 100000
set_option maxHeartbeats 400000
namespace K17
open PySem PySem.Spec PyProof.Rows L2 DL
variable [Tb]
local macro_rules | `(tactic| walk_at "rw") => `(tactic| simp only [d01, d0m, dm0, d10, Rw.toD, rdIn, wds, flatD, List.all_cons, List.all_nil, dw, Bool.true_or, Bool.false_or, Bool.or_false, Bool.or_true, Bool.true_and, Bool.and_true, Bool.false_and, Bool.and_false, Bool.not_true, Bool.not_false, decide_true, decide_false, true_and, and_true, if_true, if_false, Bool.false_eq_true, reduceIte, Nat.zero_add, Nat.reduceAdd, ite_self, wJR, wJL, wJM, wRJ, wRL, wRM, wLJ, wLR, wLM, wMJ, wMR, wML])
local macro_rules | `(tactic| walk_at "st") => `(tactic| simp only [wBo, w2, rdEq2, wNameS, wName, wC, wPart, startD, List.map_cons, List.map_nil, List.cons_append, List.nil_append, getS, AV.sv, rd1, List.length_cons, List.length_nil, List.replicate, endE, frzD, List.set, wOr, wAnd, wNot, wTru, wIs, wIf, wAndV, wOrV, wNotV, wIxC, wNeg, dat_va, dat_fr, sv_va, sv_fr, gtName, gtCons, gtNil, gtTup, wFrz, wBack, wIfS, wAugI, wPar3, wIsN, if_true, if_false, Bool.false_eq_true, Bool.not_true, Bool.not_false, decide_true, decide_false, Nat.sub_zero, Nat.succ_sub_succ_eq_sub, ite_true, ite_false, reduceIte, true_and, and_true, Nat.zero_add, Nat.reduceAdd, qisStrD_str, qisStrD_tup, qisStrD_lst, qisStrD_int, qisStrD_bl, qisStrD_non, qisStrD_dct, qisTupD_str, qisTupD_tup, qisTupD_lst, qisTupD_int, qisTupD_bl, qisTupD_non, qisTupD_dct, qisLstD_str, qisLstD_tup, qisLstD_lst, qisLstD_int, qisLstD_bl, qisLstD_non, qisLstD_dct, qisDctD_str, qisDctD_tup, qisDctD_lst, qisDctD_int, qisDctD_bl, qisDctD_non, qisDctD_dct, qisBooD_str, qisBooD_tup, qisBooD_lst, qisBooD_int, qisBooD_bl, qisBooD_non, qisBooD_dct, qisIntD_str, qisIntD_tup, qisIntD_lst, qisIntD_int, qisIntD_bl, qisIntD_non, qisIntD_dct, qAddI, qAddS, qAddT, qAddL, qInt, qSlT, qSlL, qSlS, qEqI, qEqS, qEqB, qEqN, qEqT, qEqL, qIxT0, qIxT1, qIxT2, qIxL0, qIxL1, qLenT, qLenL, qLenS, qTupT, qTupL, qLstT, qLstL, qIt, qItL, qIntI, qBl, qTrT, qTrL, qTrI, qTrN, qNoN, qNoT, qNoL, qNoI, qNoS])
local macro_rules | `(tactic| walk_at "run") => `(tactic| ((try walk_at "rw"); (try walk_at "st"); (try walk_at "rw")))
local macro_rules | `(tactic| walk_at "dl") => `(tactic| simp only [wBo, w2, rdEq2, dEq, wNameS, wName, wC, startD, List.map_cons, List.map_nil, List.cons_append, List.nil_append, getS, AV.sv, rd1, List.length_cons, List.length_nil, List.replicate, endE, frzD, wBack, List.set, wOr, wAnd, wNot, wTru, wIs, wIf, wAndV, wOrV, wNotV, wIxC, ixC, nthD, dLen, dTuple, dList, dat_va, dat_fr, sv_va, sv_fr, gtName, gtCons, gtNil, gtTup, truD, wFrz, wIfS, if_true, if_false, Bool.false_eq_true, isStrD, isTupD, isLstD, isBooD, isIntD, isDctD, Bool.not_true, Bool.not_false, decide_true, decide_false, Nat.sub_zero, Nat.succ_sub_succ_eq_sub, ite_true, ite_false, reduceIte, true_and, and_true])

def fs__law_size (n : Nat) : FSp := fun as Q => ∃ r : Rw, r.dep < n ∧ r.nodes ≤ 1000000 ∧ as = [.va r.toD] ∧ Q (.va (.int r.nodes))
theorem mo__law_size (n : Nat) : MoF (fs__law_size n) := fun as Q Q' k ⟨r, h1, h2, h3, h4⟩ => ⟨r, h1, h2, h3, k _ h4⟩
theorem no__law_size (as : List AV) (Q : RV → Prop) (h : fs__law_size 0 as Q) : False := by
  obtain ⟨_, z, _⟩ := h
  exact Nat.not_lt_zero _ z
section
variable {P : Program} {w : World} {K : PySem.W.Frag} {mg : Str → Option Value} {base : Heap}
theorem ok__law_size (T : Top K mg base) : ∀ n : Nat, FnG P w K mg base CX0 (n + 1) T.f__law_size T.d__law_size ["_law_row"] (PSp K 1 (fs__law_size n))
  | 0 => (FnG.no.mono (Nat.zero_le _)).imp fun vs H Q E ⟨S, Oc, as, h1, h2, h3, h4, h5, h6⟩ => (no__law_size as _ h6).elim
  | n + 1 => by
    have G := ok__law_size T n
    refine FnG.mono (j := (n + 1) + 1) (fn_data T.F__law_size sc__law_size (fun cdv A outer s H E hr => (evb_cons (evs_ifS (evt_tru (evr_is "str" "str" kit_str (ev_nameS 0).bo T.b_isinstance T.b_str boot_isinstance (by decide +kernel)).cl) (evb_one (evs_ret (ev_int).rv)) evb_nil)
    (evb_one (evs_ret (evr_op od_add ev_int (evr_blt (cd_sum rfl) T.b_sum (by decide +kernel) (evl_cons ((evc_lc (own := [("_law_part", 1)]) (evr_if (evt_cmp (od_in hr.rm.units) (evr_ixC 0 (ev_nameS 0)).cl (ev_tup (evl_cons ev_str (evl_cons ev_str evl_nil))).cl (by with_unfolding_all rfl)) (ev_lst (evl_cons (evr_ixC 1 (ev_nameS 0)).cl evl_nil)) (evr_typ cd_list T.b_list (by decide +kernel) (evl_cons (evr_ixC 1 (ev_nameS 0)).cl evl_nil))).cl (blkOk_by (N := ["_law_row", "_law_part"]) (sc := defScope s__law_size) (by decide +kernel)) (fun _ _ _ _ _ => (evg_name 1 sc__law_size.nd)) (fun _ _ _ _ _ => evi_nil) (fun _ _ _ _ _ => (evr_call G (mo__law_size n) (hr.mono (by omega)) T.C__law_size.hm T.C__law_size.hk T.C__law_size.hb (eva_cons (ev_name 1) eva_nil)))).rv rfl sc__law_size.nd).cl evl_nil)).cl))))) (fun as Q hn hq => ?_)) (by omega)
    obtain ⟨r, hd, hz, rfl, q⟩ := hq
    have hno := r.nodes_eq
    have hl := Rw.len_le r.parts
    have kid : ∀ s ∈ r.parts, ∀ A : RV → Prop, A (.va (.int s.nodes)) → fs__law_size n [.va s.toD] A := fun s ms A hA => by
      have h1 := r.dep_parts s ms
      have h2 := Rw.nodes_mem ms
      exact ⟨s, by omega, by omega, rfl, hA⟩
    have hsum : Q (.va (.int (1 + (r.parts.map fun s => (s.nodes : Int)).sum))) := by rw [nodes_sum]; exact q
    have fin : ∀ x : SV, lcW (gtName 1) (fun x Q => Q true) (fun sd Q => match getS sd 1 with | SV.va d => fs__law_size n [AV.va d] Q | x => False) [x, .un] (r.parts.map Rw.toD) fun out => dSum (RV.fr out).dat fun r => rdAdd (PyData.int 1) r.dat Q := fun x =>
      lcW_rows Rw.toD (fun s => .int s.nodes) r.parts _ (fun s ms A B hA => show fs__law_size n [.va s.toD] (fun z => A z.dat) from kid s ms (fun z => A z.dat) hA) ⟨List.map (fun s : Rw => (s.nodes : Int)) r.parts, by rw [List.map_map]; rfl, hsum⟩
    cases r with
    | «let» c =>
      simp only [Rw.nodes] at q
      exact q
    | right r =>
      walk_at "rw"
      walk_at "st"
      walk_at "rw"
      exact ⟨by decide, by decide, ⟨rfl, by decide⟩, fin _⟩
    | left r =>
      walk_at "rw"
      walk_at "st"
      walk_at "rw"
      exact ⟨by decide, by decide, ⟨rfl, by decide⟩, fin _⟩
    | join rs =>
      simp only [Rw.parts] at hl
      simp only [Rw.parts] at hno
      walk_at "rw"
      walk_at "st"
      walk_at "rw"
      rw [Rw.toDs_eq]
      exact ⟨by decide, ⟨rfl, by rw [List.length_map, sizeLine_eq]; omega⟩, fin _⟩
    | mix rs =>
      simp only [Rw.parts] at hl
      simp only [Rw.parts] at hno
      walk_at "rw"
      walk_at "st"
      walk_at "rw"
      rw [Rw.toDs_eq]
      exact ⟨by decide, ⟨rfl, by rw [List.length_map, sizeLine_eq]; omega⟩, fin _⟩
end
/-- a step's part, and how many numbers it takes -/
def fs__law_copy : FSp := fun as Q => ∃ (r s : Rw) (key rest : List Int), Step r key s ∧ as = [.va r.toD, .va (intsD (key ++ rest))] ∧ Q (.va (.tuple [s.toD, .int key.length]))
theorem mo__law_copy : MoF fs__law_copy := fun as Q Q' k ⟨r, s, a, b, h1, h2, h3⟩ => ⟨r, s, a, b, h1, h2, k _ h3⟩
section
variable {P : Program} {w : World} {K : PySem.W.Frag} {mg : Str → Option Value} {base : Heap}
theorem ok__law_copy (T : Top K mg base) : FnG P w K mg base CX0 (1) T.f__law_copy T.d__law_copy ["_law_row", "_law_numbers"] (PSp K 2 (fs__law_copy)) := by
  refine fn_data T.F__law_copy sc__law_copy (fun cdv A outer s H E hr => (evb_cons (evs_ifS (evt_cmp (od_eq2 hr.rm.units) (evr_ixC 0 (ev_nameS 0)).cl ev_str) (evb_one (evs_ret (ev_tup (evl_cons (evr_ix (id_ix hr.rm.units) (evr_ixC 1 (ev_nameS 0)).cl (evr_ixC 0 (ev_nameS 1)).cl).cl (evl_cons ev_int evl_nil))))) evb_nil)
    (evb_cons (evs_ifS (evt_cmp (od_eq2 hr.rm.units) (evr_ixC 0 (ev_nameS 0)).cl ev_str) (evb_one (evs_ret (ev_tup (evl_cons (evr_ix (id_ix hr.rm.units) (evr_ixC 1 (ev_nameS 0)).cl (evr_op od_mod (evr_typ cd_int T.b_int (by decide +kernel) (evl_cons (evr_op od_sub (evr_ixC 1 (ev_nameS 1)).cl ev_int).cl evl_nil)).cl (evr_blt cd_len T.b_len (by decide +kernel) (evl_cons (evr_ixC 1 (ev_nameS 0)).cl evl_nil)).cl).cl).cl (evl_cons ev_int evl_nil))))) evb_nil)
    (evb_one (evs_ret (ev_tup (evl_cons (evr_ixC 1 (ev_nameS 0)).cl (evl_cons ev_int evl_nil)))))))) (fun as Q hn hq => ?_)
  obtain ⟨r, s, key, rest, hs, rfl, q⟩ := hq
  have hl := hs.len
  cases hs with
  | @join rs _ k h =>
    simp only [intsD, List.cons_append, List.nil_append, List.map_cons]
    walk_at "rw"
    walk_at "st"
    rw [Rw.toDs_eq]
    exact rdIx_tup (by rw [List.getElem?_map, h]; rfl) ⟨by decide, q⟩
  | right i =>
    walk_at "rw"
    walk_at "st"
    walk_at "rw"
    exact ⟨by decide, q⟩
  | left i =>
    walk_at "rw"
    walk_at "st"
    walk_at "rw"
    exact ⟨by decide, q⟩
  | @mix rs _ k n h =>
    simp only [intsD, List.cons_append, List.nil_append, List.map_cons]
    walk_at "rw"
    walk_at "st"
    rw [Rw.toDs_eq]
    have hl : 0 < rs.length := by
      cases rs with
      | nil => simp at h
      | cons a t => simp
    have e : (((n + 1 : Nat) : Int) - 1) % ((rs.map Rw.toD).length : Int) = ((n % rs.length : Nat) : Int) := by
      rw [List.length_map, show (((n + 1 : Nat) : Int) - 1) = (n : Int) by omega]
      rfl
    refine ⟨by rw [List.length_map]; omega, ?_⟩
    show rdIx (.tuple (List.map Rw.toD rs)) (.int ((((n + 1 : Nat) : Int) - 1) % ((rs.map Rw.toD).length : Int))) _
    rw [e]
    exact rdIx_tup (by rw [List.getElem?_map, h]; rfl) ⟨by decide, q⟩
end
def fs__law_draw_address : FSp := fun as Q => ∃ r : Rw, r.wf = true ∧ r.nodes ≤ 60 ∧ as = [.so, .va r.toD] ∧ ∀ p, AdS r p → Sm p → p.length ≤ 2 * r.dep → Q (.va (intsD p))
theorem mo__law_draw_address : MoF fs__law_draw_address := fun as Q Q' k ⟨r, h1, h2, h3, h4⟩ => ⟨r, h1, h2, h3, fun p a b c => k _ (h4 p a b c)⟩
section
variable {P : Program} {w : World} {K : PySem.W.Frag} {mg : Str → Option Value} {base : Heap}
theorem ok__law_draw_address (T : Top K mg base) : FnG P w K mg base CX0 (2) T.f__law_draw_address T.d__law_draw_address ["_law_source", "_law_row"] (PSp K 2 (fs__law_draw_address)) := by
  refine fn_data T.F__law_draw_address sc__law_draw_address (fun cdv A outer s H E hr => (evb_cons (evs_set 2 (ev_tup evl_nil) sc__law_draw_address.nd)
    (evb_cons (evs_while (evt_not (evt_tru (evr_is "str" "str" kit_str (ev_nameS 1).bo T.b_isinstance T.b_str boot_isinstance (by decide +kernel)).cl)) (evb_cons (evs_set 3 (ev_tup (evl_cons (evr_call (ok__law_pick T) mo__law_pick (hr.mono (by omega)) T.C__law_pick.hm T.C__law_pick.hk T.C__law_pick.hb (eva_so 0 (eva_cons (evr_ix (id_ix hr.rm.units) (ev_lst (evl_cons ev_int (evl_cons ev_int (evl_cons ev_int evl_nil)))).cl (evr_call (ok__law_pick T) mo__law_pick (hr.mono (by omega)) T.C__law_pick.hm T.C__law_pick.hk T.C__law_pick.hb (eva_so 0 (eva_cons ev_int eva_nil))).cl).cl eva_nil))).cl evl_nil)) sc__law_draw_address.nd)
     (evb_cons (evs_ifS (evt_cmp (od_eq2 hr.rm.units) (evr_ixC 0 (ev_nameS 1)).cl ev_str) (evb_one (evs_set 3 (ev_tup (evl_cons (evr_call (ok__law_pick T) mo__law_pick (hr.mono (by omega)) T.C__law_pick.hm T.C__law_pick.hk T.C__law_pick.hb (eva_so 0 (eva_cons (evr_blt cd_len T.b_len (by decide +kernel) (evl_cons (evr_ixC 1 (ev_nameS 1)).cl evl_nil)).cl eva_nil))).cl evl_nil)) sc__law_draw_address.nd)) evb_nil)
     (evb_cons (evs_ifS (evt_cmp (od_eq2 hr.rm.units) (evr_ixC 0 (ev_nameS 1)).cl ev_str) (evb_cons (evs_set 4 (evr_op od_add ev_int (evr_call (ok__law_pick T) mo__law_pick (hr.mono (by omega)) T.C__law_pick.hm T.C__law_pick.hk T.C__law_pick.hb (eva_so 0 (eva_cons (evr_ix (id_ix hr.rm.units) (ev_lst (evl_cons ev_int (evl_cons ev_int (evl_cons ev_int evl_nil)))).cl (evr_call (ok__law_pick T) mo__law_pick (hr.mono (by omega)) T.C__law_pick.hm T.C__law_pick.hk T.C__law_pick.hb (eva_so 0 (eva_cons ev_int eva_nil))).cl).cl eva_nil))).cl) sc__law_draw_address.nd)
      (evb_one (evs_set 3 (ev_tup (evl_cons (evr_op od_add ev_int (evr_op od_mul ev_int (evr_call (ok__law_pick T) mo__law_pick (hr.mono (by omega)) T.C__law_pick.hm T.C__law_pick.hk T.C__law_pick.hb (eva_so 0 (eva_cons (evr_ix (id_ix hr.rm.units) (ev_lst (evl_cons ev_int (evl_cons ev_int (evl_cons ev_int (evl_cons ev_int (evl_cons ev_int (evl_cons ev_int evl_nil))))))).cl (evr_op od_sub (ev_nameS 4) ev_int).cl).cl eva_nil))).cl).cl).cl (evl_cons (ev_name 4) evl_nil))) sc__law_draw_address.nd))) evb_nil)
     (evb_one (evs_par 2 1 (evr_op od_add (ev_nameS 2) (ev_nameS 3)) (evr_ixC 0 (evr_call (ok__law_copy T) mo__law_copy (hr.mono (by omega)) T.C__law_copy.hm T.C__law_copy.hk T.C__law_copy.hb (eva_cons (ev_name 1) (eva_cons (ev_name 3) eva_nil))).cl) rfl sc__law_draw_address.nd))))))
    (evb_one (evs_retO 2))))) (fun as Q hn hq => ?_)
  obtain ⟨r, hw, hz, rfl, q⟩ := hq
  refine ⟨Nat.zero_le _, ?_⟩
  refine ⟨fun m sd => ∃ (r' : Rw) (acc : List Int) (y z : SV), sd = [.so, .va r'.toD, .va (intsD acc), y, z] ∧ r'.wf = true ∧ r'.nodes ≤ 60 ∧ (∀ p, AdS r' p → AdS r (acc ++ p)) ∧ Sm acc ∧ r'.dep = m ∧ acc.length + 2 * m ≤ 2 * r.dep,
    ⟨_, r, [], .un, .un, rfl, hw, hz, fun p h => h, Sm.nil, rfl, by simp only [List.length_nil]; omega⟩, ?_⟩
  rintro m sd ⟨r', acc, y, z, rfl, w, hn', h1, hsm, h2, h3⟩
  by_cases hL : r'.isL = true
  · cases r' with
    | «let» c =>
      have := q acc (by simpa using h1 [] (.let c)) hsm (by omega)
      exact this
    | _ => cases hL
  have hns : isStrD r'.toD = false := Rw.notStr (by simpa using hL)
  have key : ∀ (key : List Int) (s : Rw) (z' : SV), Step r' key s → skey r' key = true → Sm key → ∃ m', m' < m ∧ ∃ (r' : Rw) (acc' : List Int) (y z : SV), [SV.so, SV.va s.toD, SV.va (intsD (acc ++ key)), SV.va (intsD key), z'] = [.so, .va r'.toD, .va (intsD acc'), y, z] ∧ r'.wf = true ∧ r'.nodes ≤ 60 ∧ (∀ p, AdS r' p → AdS r (acc' ++ p)) ∧ Sm acc' ∧ r'.dep = m' ∧ acc'.length + 2 * m' ≤ 2 * r.dep := by
    intro key s z' hs hsk hk
    have hd := hs.dep
    have hm := hs.nodes
    have hl := hs.len
    have hl2 : key.length ≤ 2 := by rw [hl]; split <;> omega
    refine ⟨s.dep, by omega, s, acc ++ key, _, _, rfl, hs.wf w, by omega, fun p hp => ?_, hsm.app hk, rfl, by rw [List.length_append]; omega⟩
    rw [List.append_assoc]
    exact h1 _ (.step hs hsk hp)
  have la : acc.length ≤ 200 := by have := dep_nodes r; omega
  have ea : ∀ key : List Int, (acc.map PyData.int) ++ (key.map PyData.int) = (acc ++ key).map PyData.int := fun key => by rw [List.map_append]
  simp only [wNot, wTru, wIs, wNameS, getS, dat_va, hns, qBl, Bool.not_false, if_true]
  refine ⟨by show 3 ≤ sizeLine; decide, rfl, pk (by decide) fun i i0 i1 => rdIx_all i0 (by show i < 3; omega) fun v hv => ?_⟩
  have hv2 : ∃ j : Int, v = .int j ∧ 2 ≤ j ∧ j ≤ 10 := by
    simp only [List.mem_cons, List.not_mem_nil, or_false] at hv
    rcases hv with rfl | rfl | rfl
    · exact ⟨2, rfl, by decide, by decide⟩
    · exact ⟨4, rfl, by decide, by decide⟩
    · exact ⟨10, rfl, by decide, by decide⟩
  obtain ⟨j, rfl, j0, j1⟩ := hv2
  refine ⟨rfl, pk (by omega) fun a a0 a1 => ⟨z1, ?_⟩⟩
  clear hns
  cases r' with
  | «let» c => exact absurd rfl hL
  | join rs =>
    have w2 : 2 ≤ rs.length := by simp only [Rw.wf, Bool.and_eq_true, decide_eq_true_eq] at w; exact w.1
    have hl := Rw.len_le rs
    simp only [Rw.nodes] at hn'
    walk_at "rw"
    walk_at "st"
    walk_at "rw"
    refine ⟨rfl, pk (by show ((Rw.toDs rs).length : Int) < _; rw [Rw.toDs_eq, List.length_map]; omega) fun b b0 b1 => ⟨by decide, ?_⟩⟩
    have b2 : b < rs.length := by
      rw [Rw.toDs_eq, List.length_map] at b1
      omega
    obtain ⟨n, rfl⟩ := Int.eq_ofNat_of_zero_le b0
    have hn : n < rs.length := by omega
    have hs : Step (.join rs) [(n : Int)] rs[n] := .join n (List.getElem?_eq_getElem hn)
    refine ⟨by rw [List.length_map, List.length_singleton, sizeLine_eq]; omega, .join rs, rs[n], [(n : Int)], [], hs, rfl, ?_⟩
    have := key [(n : Int)] _ z hs rfl (Sm.one (by omega))
    unfold intsD at this
    rw [List.map_append] at this
    exact this
  | right r0 =>
    walk_at "rw"
    walk_at "st"
    walk_at "rw"
    obtain ⟨n, rfl⟩ := Int.eq_ofNat_of_zero_le a0
    have hs : Step (.right r0) [(n : Int)] r0 := .right n
    refine ⟨by rw [List.length_map, List.length_singleton, sizeLine_eq]; omega, .right r0, r0, [(n : Int)], [], hs, rfl, ?_⟩
    have := key [(n : Int)] _ z hs rfl (Sm.one (by omega))
    unfold intsD at this
    rw [List.map_append] at this
    exact this
  | left r0 =>
    walk_at "rw"
    walk_at "st"
    walk_at "rw"
    obtain ⟨n, rfl⟩ := Int.eq_ofNat_of_zero_le a0
    have hs : Step (.left r0) [(n : Int)] r0 := .left n
    refine ⟨by rw [List.length_map, List.length_singleton, sizeLine_eq]; omega, .left r0, r0, [(n : Int)], [], hs, rfl, ?_⟩
    have := key [(n : Int)] _ z hs rfl (Sm.one (by omega))
    unfold intsD at this
    rw [List.map_append] at this
    exact this
  | mix rs =>
    have w2 : 1 ≤ rs.length := by simp only [Rw.wf, Bool.and_eq_true, decide_eq_true_eq] at w; exact w.1
    walk_at "rw"
    walk_at "st"
    walk_at "rw"
    refine ⟨by decide, rfl, pk (by decide) fun i i0 i1 => rdIx_all i0 (by show i < 3; omega) fun v hv => ?_⟩
    have hv2 : ∃ j : Int, v = .int j ∧ 2 ≤ j ∧ j ≤ 6 := by
      simp only [List.mem_cons, List.not_mem_nil, or_false] at hv
      rcases hv with rfl | rfl | rfl
      · exact ⟨2, rfl, by decide, by decide⟩
      · exact ⟨3, rfl, by decide, by decide⟩
      · exact ⟨6, rfl, by decide, by decide⟩
    obtain ⟨j, rfl, j0, j1⟩ := hv2
    refine ⟨rfl, pk (by omega) fun n n0 n1 => ⟨by decide, trivial, ?_⟩⟩
    obtain ⟨n, rfl⟩ := Int.eq_ofNat_of_zero_le n0
    have n6 : n < 6 := by omega
    have p32 : 2 ^ n ≤ 2 ^ 5 := Nat.pow_le_pow_right (by decide) (by omega)
    have p32' : (2 : Nat) ^ 5 = 32 := rfl
    have p1 : 0 < 2 ^ n := Nat.two_pow_pos n
    dsimp only
    rw [show (1 : Int) + (n : Int) - 1 = (n : Int) by omega]
    refine rdIx_lst (six n n6) ?_
    refine ⟨rfl, pk (by omega) fun k k0 k1 => ⟨.inl (.inl ⟨by decide, by decide⟩), by decide, ?_⟩⟩
    obtain ⟨k, rfl⟩ := Int.eq_ofNat_of_zero_le k0
    have kp : k < 2 ^ n := by omega
    have hn : n % rs.length < rs.length := Nat.mod_lt _ (by omega)
    have hs : Step (.mix rs) [((1 + 2 * k : Nat) : Int), ((n + 1 : Nat) : Int)] rs[n % rs.length] := .mix _ n (List.getElem?_eq_getElem hn)
    have e1 : (1 : Int) + 2 * (k : Int) = ((1 + 2 * k : Nat) : Int) := by omega
    have e2 : (1 : Int) + (n : Int) = ((n + 1 : Nat) : Int) := by omega
    rw [e1, e2]
    refine ⟨by rw [List.length_map, sizeLine_eq]; show acc.length + 2 ≤ _; omega, .mix rs, rs[n % rs.length], [((1 + 2 * k : Nat) : Int), ((n + 1 : Nat) : Int)], [], hs, rfl, ?_⟩
    have := key [((1 + 2 * k : Nat) : Int), ((n + 1 : Nat) : Int)] _ (.va (.int ((n + 1 : Nat) : Int))) hs (skey_mix n6 kp) (Sm.two (by omega) (by omega))
    unfold intsD at this
    rw [List.map_append] at this
    exact this
end
end K17

set_option Elab.async false
set_option linter.all false
set_option maxRecDepth 100000
set_option maxHeartbeats 400000
namespace K17
open PySem PySem.Spec PyProof.Rows L2 DL
variable [Tb]
local macro_rules | `(tactic| walk_at "rw") => `(tactic| simp only [d01, d0m, dm0, d10, Rw.toD, rdIn, wds, flatD, List.all_cons, List.all_nil, dw, Bool.true_or, Bool.false_or, Bool.or_false, Bool.or_true, Bool.true_and, Bool.and_true, Bool.false_and, Bool.and_false, Bool.not_true, Bool.not_false, decide_true, decide_false, true_and, and_true, if_true, if_false, Bool.false_eq_true, reduceIte, Nat.zero_add, Nat.reduceAdd, ite_self, wJR, wJL, wJM, wRJ, wRL, wRM, wLJ, wLR, wLM, wMJ, wMR, wML])
local macro_rules | `(tactic| walk_at "st") => `(tactic| simp only [wBo, w2, rdEq2, wNameS, wName, wC, wPart, startD, List.map_cons, List.map_nil, List.cons_append, List.nil_append, getS, AV.sv, rd1, List.length_cons, List.length_nil, List.replicate, endE, frzD, List.set, wOr, wAnd, wNot, wTru, wIs, wIf, wAndV, wOrV, wNotV, wIxC, wNeg, dat_va, dat_fr, sv_va, sv_fr, gtName, gtCons, gtNil, gtTup, wFrz, wBack, wIfS, wAugI, wPar3, wIsN, if_true, if_false, Bool.false_eq_true, Bool.not_true, Bool.not_false, decide_true, decide_false, Nat.sub_zero, Nat.succ_sub_succ_eq_sub, ite_true, ite_false, reduceIte, true_and, and_true, Nat.zero_add, Nat.reduceAdd, qisStrD_str, qisStrD_tup, qisStrD_lst, qisStrD_int, qisStrD_bl, qisStrD_non, qisStrD_dct, qisTupD_str, qisTupD_tup, qisTupD_lst, qisTupD_int, qisTupD_bl, qisTupD_non, qisTupD_dct, qisLstD_str, qisLstD_tup, qisLstD_lst, qisLstD_int, qisLstD_bl, qisLstD_non, qisLstD_dct, qisDctD_str, qisDctD_tup, qisDctD_lst, qisDctD_int, qisDctD_bl, qisDctD_non, qisDctD_dct, qisBooD_str, qisBooD_tup, qisBooD_lst, qisBooD_int, qisBooD_bl, qisBooD_non, qisBooD_dct, qisIntD_str, qisIntD_tup, qisIntD_lst, qisIntD_int, qisIntD_bl, qisIntD_non, qisIntD_dct, qAddI, qAddS, qAddT, qAddL, qInt, qSlT, qSlL, qSlS, qEqI, qEqS, qEqB, qEqN, qEqT, qEqL, qIxT0, qIxT1, qIxT2, qIxL0, qIxL1, qLenT, qLenL, qLenS, qTupT, qTupL, qLstT, qLstL, qIt, qItL, qIntI, qBl, qTrT, qTrL, qTrI, qTrN, qNoN, qNoT, qNoL, qNoI, qNoS])
local macro_rules | `(tactic| walk_at "run") => `(tactic| ((try walk_at "rw"); (try walk_at "st"); (try walk_at "rw")))
local macro_rules | `(tactic| walk_at "dl") => `(tactic| simp only [wBo, w2, rdEq2, dEq, wNameS, wName, wC, startD, List.map_cons, List.map_nil, List.cons_append, List.nil_append, getS, AV.sv, rd1, List.length_cons, List.length_nil, List.replicate, endE, frzD, wBack, List.set, wOr, wAnd, wNot, wTru, wIs, wIf, wAndV, wOrV, wNotV, wIxC, ixC, nthD, dLen, dTuple, dList, dat_va, dat_fr, sv_va, sv_fr, gtName, gtCons, gtNil, gtTup, truD, wFrz, wIfS, if_true, if_false, Bool.false_eq_true, isStrD, isTupD, isLstD, isBooD, isIntD, isDctD, Bool.not_true, Bool.not_false, decide_true, decide_false, Nat.sub_zero, Nat.succ_sub_succ_eq_sub, ite_true, ite_false, reduceIte, true_and, and_true])

def fs__law_few : FSp := fun as Q => ∃ k : Nat, 1 ≤ k ∧ k ≤ 3 ∧ as = [.so, .va (.int k)] ∧ ∀ r : Rw, r.wf = true → r.dep ≤ 6 → r.nodes ≤ 25 → Q (.va r.toD)
theorem mo__law_few : MoF fs__law_few := fun as Q Q' k ⟨n, h1, h2, h3, h4⟩ => ⟨n, h1, h2, h3, fun r a b c => k _ (h4 r a b c)⟩
theorem eabcd : (Str.ofString "abcd") = letS [0, 1, 2, 3] := by decide +kernel
theorem abcd_mem : ∀ c ∈ (Str.ofString "abcd").cps.toList, ∃ f : _root_.Fin 26, c = 97 + f.val := by
  have e : (Str.ofString "abcd").cps.toList = [97, 98, 99, 100] := by decide +kernel
  rw [e]
  intro c m
  simp only [List.mem_cons, List.not_mem_nil, or_false] at m
  rcases m with rfl | rfl | rfl | rfl
  · exact ⟨0, rfl⟩
  · exact ⟨1, rfl⟩
  · exact ⟨2, rfl⟩
  · exact ⟨3, rfl⟩
theorem abcd_cut (n : Nat) (h : n ≤ 3) : cutS (Str.ofString "abcd") none (some (1 + (n : Int))) = letS (([0, 1, 2, 3] : List (_root_.Fin 26)).take (1 + n)) := by
  match n, h with
  | 0, _ => decide +kernel
  | 1, _ => decide +kernel
  | 2, _ => decide +kernel
  | 3, _ => decide +kernel
section
variable {P : Program} {w : World} {K : PySem.W.Frag} {mg : Str → Option Value} {base : Heap}
theorem ok__law_few (T : Top K mg base) : FnG P w K mg base CX0 (9) T.f__law_few T.d__law_few ["_law_source", "_law_most"] (PSp K 2 (fs__law_few)) := by
  refine fn_data T.F__law_few sc__law_few (fun cdv A outer s H E hr => (evb_cons (evs_set 2 (evr_call (ok__law_pick T) mo__law_pick (hr.mono (by omega)) T.C__law_pick.hm T.C__law_pick.hk T.C__law_pick.hb (eva_so 0 (eva_cons ev_int eva_nil))) sc__law_few.nd)
    (evb_cons (evs_ifS (evt_cmp (od_eq2 hr.rm.units) (ev_nameS 2).bo ev_int) (evb_cons (evs_set 3 (ev_str).rv sc__law_few.nd)
     (evb_cons (evs_forR ev_int (evg_name 4 sc__law_few.nd) (evb_one (evs_set 3 (evr_ix (id_ix hr.rm.units) (ev_lst (evl_cons (ev_tup (evl_cons ev_str (evl_cons (ev_name 3) evl_nil))).cl (evl_cons (ev_tup (evl_cons ev_str (evl_cons (ev_name 3) evl_nil))).cl (evl_cons (ev_tup (evl_cons ev_str (evl_cons (ev_tup (evl_cons (ev_name 3) (evl_cons ev_str evl_nil))).cl evl_nil))).cl (evl_cons (ev_tup (evl_cons ev_str (evl_cons (ev_tup (evl_cons ev_str (evl_cons (ev_name 3) evl_nil))).cl evl_nil))).cl evl_nil))))).cl (evr_call (ok__law_pick T) mo__law_pick (hr.mono (by omega)) T.C__law_pick.hm T.C__law_pick.hk T.C__law_pick.hb (eva_so 0 (eva_cons ev_int eva_nil))).cl) sc__law_few.nd)) rfl T.b_range)
     (evb_one (evs_retO 3)))) evb_nil)
    (evb_cons (evs_ifS (evt_cmp (od_eq2 hr.rm.units) (ev_nameS 2).bo ev_int) (evb_cons (evs_set 5 (ev_lst evl_nil) sc__law_few.nd)
     (evb_cons (evs_forR (evr_op od_add ev_int (evr_call (ok__law_pick T) mo__law_pick (hr.mono (by omega)) T.C__law_pick.hm T.C__law_pick.hk T.C__law_pick.hb (eva_so 0 (eva_cons ev_int eva_nil))).cl).cl (evg_name 4 sc__law_few.nd) (evb_cons (evs_set 6 (evr_ix (id_ix hr.rm.units) ev_str (evr_call (ok__law_pick T) mo__law_pick (hr.mono (by omega)) T.C__law_pick.hm T.C__law_pick.hk T.C__law_pick.hb (eva_so 0 (eva_cons ev_int eva_nil))).cl) sc__law_few.nd)
      (evb_one (evs_append 5 (evr_ix (id_ix hr.rm.units) (ev_lst (evl_cons (ev_name 6) (evl_cons (ev_name 6) (evl_cons (ev_tup (evl_cons ev_str (evl_cons (ev_name 6) evl_nil))).cl (evl_cons (ev_tup (evl_cons ev_str (evl_cons (ev_name 6) evl_nil))).cl evl_nil))))).cl (evr_call (ok__law_pick T) mo__law_pick (hr.mono (by omega)) T.C__law_pick.hm T.C__law_pick.hk T.C__law_pick.hb (eva_so 0 (eva_cons ev_int eva_nil))).cl)))) rfl T.b_range)
     (evb_frz 5 (evb_one (evs_ret (ev_tup (evl_cons (evr_ix (id_ix hr.rm.units) (ev_lst (evl_cons ev_str (evl_cons ev_str evl_nil))).cl (evr_call (ok__law_pick T) mo__law_pick (hr.mono (by omega)) T.C__law_pick.hm T.C__law_pick.hk T.C__law_pick.hb (eva_so 0 (eva_cons ev_int eva_nil))).cl).cl (evl_cons (evr_typ cd_tuple T.b_tuple (by decide +kernel) (evl_cons (ev_nameS 5) evl_nil)).cl evl_nil)))))))) evb_nil)
    (evb_cons (evs_set 3 (evr_call (ok__law_draw_row T 4) (mo__law_draw_row 4) (hr.mono (by omega)) T.C__law_draw_row.hm T.C__law_draw_row.hk T.C__law_draw_row.hb (eva_so 0 (eva_cons (evr_slice ev_str evo_none (evo_some (evr_op od_add ev_int (evr_call (ok__law_pick T) mo__law_pick (hr.mono (by omega)) T.C__law_pick.hm T.C__law_pick.hk T.C__law_pick.hb (eva_so 0 (eva_cons ev_int eva_nil))).cl).cl)).cl (eva_cons (ev_name 1) eva_nil)))) sc__law_few.nd)
    (evb_one (evs_ret (evr_if (evt_cmp od_lt (evr_call (ok__law_size T 7) (mo__law_size 7) (hr.mono (by omega)) T.C__law_size.hm T.C__law_size.hk T.C__law_size.hb (eva_cons (ev_name 3) eva_nil)).cl ev_int) (ev_name 3).rv (ev_tup (evl_cons ev_str (evl_cons (ev_tup (evl_cons (ev_tup (evl_cons ev_str (evl_cons (ev_tup (evl_cons ev_str (evl_cons (ev_tup (evl_cons ev_str (evl_cons ev_str evl_nil))).cl evl_nil))).cl evl_nil))).cl (evl_cons ev_str evl_nil))).cl evl_nil))))))))))) (fun as Q hn hq => ?_)
  obtain ⟨k, k1, k3, rfl, q⟩ := hq
  refine ⟨rfl, pk (by decide) fun i i0 i1 => ?_⟩
  refine ite3 (fun h => ?_) (fun h => ?_)
  · refine ⟨by decide, forW_inv (fun ds sd => ∃ (r : Rw) (y : SV), sd = [.so, .va (.int k), .va (.int i), .va r.toD, y, .un, .un] ∧ r.wf = true ∧ r.dep + ds.length ≤ 6 ∧ r.nodes + 2 * ds.length ≤ 13) ?_ ?_ _ _ ⟨.let 0, .un, rfl, rfl, by decide, by decide⟩⟩
    · rintro sd ⟨r, y, rfl, w, h1, h2⟩
      exact q r w (by simp only [List.length_nil] at h1; omega) (by simp only [List.length_nil] at h2; omega)
    · rintro d ds sd kk hk ⟨r, y, rfl, w, h1, h2⟩
      simp only [List.length_cons] at h1 h2
      refine ⟨sl2, sl2, sl2, sl2, sl2, sl2, by show 4 ≤ sizeLine; decide, rfl, pk (by decide) fun j j0 j1 => rdIx_all j0 (by show j < 4; omega) fun v hv => ?_⟩
      have hv2 : ∃ r' : Rw, v = r'.toD ∧ r'.wf = true ∧ r'.dep ≤ r.dep + 1 ∧ r'.nodes ≤ r.nodes + 2 := by
        simp only [List.mem_cons, List.not_mem_nil, or_false] at hv
        rcases hv with rfl | rfl | rfl | rfl
        · exact ⟨.right r, rfl, w, by simp only [Rw.dep]; omega, by simp only [Rw.nodes]; omega⟩
        · exact ⟨.left r, rfl, w, by simp only [Rw.dep]; omega, by simp only [Rw.nodes]; omega⟩
        · exact ⟨.mix [r, .let 1], rfl, by simp only [Rw.wf, Rw.wfL, w]; rfl, by simp only [Rw.dep, Rw.depL]; omega, by simp only [Rw.nodes, Rw.nodesL]; omega⟩
        · exact ⟨.join [.let 0, r], rfl, by simp only [Rw.wf, Rw.wfL, w]; rfl, by simp only [Rw.dep, Rw.depL]; omega, by simp only [Rw.nodes, Rw.nodesL]; omega⟩
      obtain ⟨r', rfl, w', d', n'⟩ := hv2
      exact hk _ ⟨r', .va d, rfl, w', by omega, by omega⟩
  refine ite3 (fun h => ?_) (fun h => ?_)
  · refine ⟨Nat.zero_le _, rfl, pk (by decide) fun n n0 n1 => ⟨⟨by omega, by omega⟩, forW_inv (fun ds sd => ∃ (rs : List Rw) (x y z : SV), sd = [.so, .va (.int k), .va (.int i), x, y, .ow (rs.map Rw.toD), z] ∧ Rw.wfL rs = true ∧ Rw.depL rs ≤ 1 ∧ Rw.nodesL rs ≤ 2 * rs.length ∧ rs.length + ds.length = (4 + n).toNat) ?_ ?_ _ _ ⟨[], _, _, _, rfl, rfl, by decide, by decide, ?_⟩⟩⟩
    · rintro sd ⟨rs, x, y, z, rfl, w, h1, h2, h3⟩
      simp only [List.length_nil] at h3
      refine ⟨sl2, rfl, pk (by decide) fun j j0 j1 => rdIx_all j0 (by show j < 2; omega) fun v hv => ?_⟩
      refine ⟨sl2, ?_⟩
      simp only [List.mem_cons, List.not_mem_nil, or_false] at hv
      rcases hv with rfl | rfl
      · have := q (.join rs) (by simp only [Rw.wf, w, Bool.and_true]; exact decide_eq_true (by omega)) (by simp only [Rw.dep]; omega) (by simp only [Rw.nodes]; omega)
        simp only [Rw.toD, Rw.toDs_eq] at this
        exact this
      · have := q (.mix rs) (by simp only [Rw.wf, w, Bool.and_true]; exact decide_eq_true (by omega)) (by simp only [Rw.dep]; omega) (by simp only [Rw.nodes]; omega)
        simp only [Rw.toD, Rw.toDs_eq] at this
        exact this
    · rintro d ds sd kk hk ⟨rs, x, y, z, rfl, w, h1, h2, h3⟩
      simp only [List.length_cons] at h3
      refine ⟨rfl, pk (by decide) fun j j0 j1 => rdIx_str (by decide) j0 (by show j < 4; omega) fun c hc => ?_⟩
      obtain ⟨f, rfl⟩ := abcd_mem c hc
      refine ⟨sl2, sl2, by show 4 ≤ sizeLine; decide, rfl, pk (by decide) fun u u0 u1 => rdIx_all u0 (by show u < 4; omega) fun v hv => ?_⟩
      have hv2 : ∃ r' : Rw, v = r'.toD ∧ r'.wf = true ∧ r'.dep ≤ 1 ∧ r'.nodes ≤ 2 := by
        simp only [List.mem_cons, List.not_mem_nil, or_false] at hv
        rcases hv with rfl | rfl | rfl | rfl
        · exact ⟨.let f, rfl, rfl, by simp only [Rw.dep]; omega, by simp only [Rw.nodes]; omega⟩
        · exact ⟨.let f, rfl, rfl, by simp only [Rw.dep]; omega, by simp only [Rw.nodes]; omega⟩
        · exact ⟨.right (.let f), rfl, rfl, by simp only [Rw.dep]; omega, by simp only [Rw.nodes]; omega⟩
        · exact ⟨.left (.let f), rfl, rfl, by simp only [Rw.dep]; omega, by simp only [Rw.nodes]; omega⟩
      obtain ⟨r', rfl, w', d', n'⟩ := hv2
      refine ⟨by rw [List.length_map, sizeLine_eq]; omega, ?_⟩
      refine hk _ ⟨rs ++ [r'], _, _, _, by rw [List.map_append]; rfl, ?_, ?_, ?_, ?_⟩
      · rw [Rw.wfL_app, w]; simp only [Rw.wfL, w', Bool.and_self]
      · rw [Rw.depL_app]; simp only [Rw.depL]; omega
      · rw [Rw.nodesL_app, List.length_append]; simp only [Rw.nodesL, List.length_singleton]; omega
      · rw [List.length_append, List.length_singleton]; omega
    · show 0 + ((List.range (4 + n).toNat).map _).length = _
      rw [List.length_map, List.length_range, Nat.zero_add]
  · refine ⟨rfl, pk (by decide) fun n n0 n1 => ?_⟩
    obtain ⟨n, rfl⟩ := Int.eq_ofNat_of_zero_le n0
    have n3 : n ≤ 3 := by omega
    have hlen : (([0, 1, 2, 3] : List (_root_.Fin 26)).take (1 + n)).length = 1 + n := by
      rw [List.length_take]; show min (1 + n) 4 = _; omega
    refine ⟨by decide, rfl, ([0, 1, 2, 3] : List (_root_.Fin 26)).take (1 + n), k, by rw [abcd_cut n n3], by omega, by omega, by omega, by omega, fun r d1 d2 d3 => ?_⟩
    have p64 : 4 ^ k ≤ 4 ^ 3 := Nat.pow_le_pow_right (by decide) k3
    have p64' : (4 : Nat) ^ 3 = 64 := rfl
    refine ⟨rfl, r, by omega, by omega, rfl, trivial, ite3 (fun h => ?_) (fun h => ?_)⟩
    · have : (r.nodes : Int) < 25 := of_decide_eq_true h
      exact q r d3 (by omega) (by omega)
    · exact ⟨sl2, sl2, sl2, sl2, sl2, q (.mix [.right (.join [.let 0, .let 1]), .let 2]) rfl (by decide) (by decide)⟩
end
/-- a drawn address that begins as another one -/
def fs__law_near_place : FSp := fun as Q => ∃ (r : Rw) (p : List Int), r.wf = true ∧ r.nodes ≤ 60 ∧ AdS r p ∧ Sm p ∧ as = [.so, .va r.toD, .va (intsD p)] ∧ ∀ p', AdS r p' → Sm p' → Q (.va (intsD p'))
theorem mo__law_near_place : MoF fs__law_near_place := fun as Q Q' k ⟨r, p, h1, h2, h3, h4, h5, h6⟩ => ⟨r, p, h1, h2, h3, h4, h5, fun p' a b => k _ (h6 p' a b)⟩
section
variable {P : Program} {w : World} {K : PySem.W.Frag} {mg : Str → Option Value} {base : Heap}
theorem ok__law_near_place (T : Top K mg base) : FnG P w K mg base CX0 (3) T.f__law_near_place T.d__law_near_place ["_law_source", "_law_row", "_law_place"] (PSp K 3 (fs__law_near_place)) := by
  refine fn_data T.F__law_near_place sc__law_near_place (fun cdv A outer s H E hr => (evb_cons (evs_par3 3 4 5 (evl_cons (ev_tup evl_nil).cl (evl_cons (ev_name 1) (evl_cons (evr_call (ok__law_pick T) mo__law_pick (hr.mono (by omega)) T.C__law_pick.hm T.C__law_pick.hk T.C__law_pick.hb (eva_so 0 (eva_cons (evr_op od_add (evr_blt cd_len T.b_len (by decide +kernel) (evl_cons (ev_nameS 2) evl_nil)).cl ev_int).cl eva_nil))).cl evl_nil))) rfl sc__law_near_place.nd)
    (evb_cons (evs_while (evt_not (evt_tru (evr_is "str" "str" kit_str (ev_nameS 4).bo T.b_isinstance T.b_str boot_isinstance (by decide +kernel)).cl)) (evb_cons (evs_asg (evr_call (ok__law_copy T) mo__law_copy (hr.mono (by omega)) T.C__law_copy.hm T.C__law_copy.hk T.C__law_copy.hb (eva_cons (ev_name 4) (eva_cons (evr_slice (ev_nameS 2) (evo_some (evr_blt cd_len T.b_len (by decide +kernel) (evl_cons (ev_nameS 3) evl_nil)).cl) evo_none).cl eva_nil))).m (evg_tup (n := 2) rfl (evgs_cons (evg_name 6 sc__law_near_place.nd) (evgs_cons (evg_name 7 sc__law_near_place.nd) evgs_nil))))
     (evb_cons (evs_ifS (evt_cmp od_gt (evr_op od_add (evr_blt cd_len T.b_len (by decide +kernel) (evl_cons (ev_nameS 3) evl_nil)).cl (ev_nameS 7)).cl (ev_nameS 5)) (evb_one (evs_ret (evr_op od_add (ev_nameS 3) (evr_call (ok__law_draw_address T) mo__law_draw_address (hr.mono (by omega)) T.C__law_draw_address.hm T.C__law_draw_address.hk T.C__law_draw_address.hb (eva_so 0 (eva_cons (ev_name 4) eva_nil))).cl))) evb_nil)
     (evb_one (evs_par 4 3 (ev_name 6).rv (evr_op od_add (ev_nameS 3) (evr_slice (ev_nameS 2) (evo_some (evr_blt cd_len T.b_len (by decide +kernel) (evl_cons (ev_nameS 3) evl_nil)).cl) (evo_some (evr_op od_add (evr_blt cd_len T.b_len (by decide +kernel) (evl_cons (ev_nameS 3) evl_nil)).cl (ev_nameS 7)).cl)).cl) rfl sc__law_near_place.nd)))))
    (evb_one (evs_retO 3))))) (fun as Q hn hq => ?_)
  obtain ⟨r, p, hw, hz, ha, hs, rfl, q⟩ := hq
  have hl := ha.ad.len
  have hd := dep_nodes r
  refine ⟨Nat.zero_le _, rfl, pk (by show ((p.map PyData.int).length : Int) + 1 < 2 ^ 20; rw [List.length_map]; omega) fun spot s0 s1 => ?_⟩
  refine ⟨fun m sd => ∃ (r' : Rw) (pre rest : List Int) (y z : SV), sd = [.so, .va r.toD, .va (intsD p), .va (intsD pre), .va r'.toD, .va (.int spot), y, z] ∧ pre ++ rest = p ∧ AdS r' rest ∧ (∀ q, AdS r' q → AdS r (pre ++ q)) ∧ r'.wf = true ∧ r'.nodes ≤ 60 ∧ r'.dep = m,
    ⟨_, r, [], p, .un, .un, rfl, rfl, ha, fun q h => h, hw, hz, rfl⟩, ?_⟩
  rintro m sd ⟨r', pre, rest, y, z, rfl, e, w, h1, w1, w2, hm⟩
  cases w with
  | «let» c =>
    have := q pre (by have := h1 [] (.let c); rwa [List.append_nil] at this) (by rw [← e] at hs; exact (Sm.of_app hs).1)
    exact this
  | @step _ s key p2 st hk t =>
    have hL : r'.isL = false := by cases st <;> rfl
    have hns : isStrD r'.toD = false := Rw.notStr hL
    have hdp := st.dep
    have hno := st.nodes
    subst e
    simp only [wNot, wTru, wIs, wNameS, getS, dat_va, hns, qBl, Bool.not_false, if_true]
    have lp : pre.length + (key.length + p2.length) ≤ 2 * r.dep := by simpa only [List.length_append] using hl
    have ls : 1000 ≤ sizeLine := by decide
    have hd' := dep_nodes r'
    refine ⟨rfl, r', s, key, p2, st, by
      show [AV.va r'.toD, AV.va (.tuple (cutD ((pre ++ (key ++ p2)).map PyData.int) (some ((pre.map PyData.int).length : Int)) none))] = _
      rw [cut_postL]; rfl, rfl, rfl, ⟨trivial, ite3 (fun h => ?_) (fun h => ?_)⟩⟩
    · refine ⟨rfl, r', w1, w2, rfl, fun q' qa qs ql => ⟨by rw [List.length_map, List.length_map]; omega, ?_⟩⟩
      have := q (pre ++ q') (h1 q' qa) (Sm.app (Sm.of_app hs).1 qs)
      unfold intsD at this
      rw [List.map_append] at this
      exact this
    · dsimp only
      refine ⟨by rw [cut_midL, List.length_map, List.length_map]; omega, s.dep, by omega, s, pre ++ key, p2, .va s.toD, .va (.int key.length), ?_, by rw [List.append_assoc], t, fun q' h => ?_, st.wf w1, by omega, rfl⟩
      · rw [cut_midL, ← List.map_append]
        rfl
      · rw [List.append_assoc]
        exact h1 _ (.step st hk h)
end
end K17

set_option Elab.async false
set_option linter.all false
set_option maxRecDepth 100000
set_option maxHeartbeats 400000
namespace K17
open PySem PySem.Spec PyProof.Rows L2 DL
variable [Tb]
local macro_rules | `(tactic| walk_at "rw") => `(tactic| simp only [d01, d0m, dm0, d10, Rw.toD, rdIn, wds, flatD, List.all_cons, List.all_nil, dw, Bool.true_or, Bool.false_or, Bool.or_false, Bool.or_true, Bool.true_and, Bool.and_true, Bool.false_and, Bool.and_false, Bool.not_true, Bool.not_false, decide_true, decide_false, true_and, and_true, if_true, if_false, Bool.false_eq_true, reduceIte, Nat.zero_add, Nat.reduceAdd, ite_self, wJR, wJL, wJM, wRJ, wRL, wRM, wLJ, wLR, wLM, wMJ, wMR, wML])
local macro_rules | `(tactic| walk_at "st") => `(tactic| simp only [wBo, w2, rdEq2, wNameS, wName, wC, wPart, startD, List.map_cons, List.map_nil, List.cons_append, List.nil_append, getS, AV.sv, rd1, List.length_cons, List.length_nil, List.replicate, endE, frzD, List.set, wOr, wAnd, wNot, wTru, wIs, wIf, wAndV, wOrV, wNotV, wIxC, wNeg, dat_va, dat_fr, sv_va, sv_fr, gtName, gtCons, gtNil, gtTup, wFrz, wBack, wIfS, wAugI, wPar3, wIsN, if_true, if_false, Bool.false_eq_true, Bool.not_true, Bool.not_false, decide_true, decide_false, Nat.sub_zero, Nat.succ_sub_succ_eq_sub, ite_true, ite_false, reduceIte, true_and, and_true, Nat.zero_add, Nat.reduceAdd, qisStrD_str, qisStrD_tup, qisStrD_lst, qisStrD_int, qisStrD_bl, qisStrD_non, qisStrD_dct, qisTupD_str, qisTupD_tup, qisTupD_lst, qisTupD_int, qisTupD_bl, qisTupD_non, qisTupD_dct, qisLstD_str, qisLstD_tup, qisLstD_lst, qisLstD_int, qisLstD_bl, qisLstD_non, qisLstD_dct, qisDctD_str, qisDctD_tup, qisDctD_lst, qisDctD_int, qisDctD_bl, qisDctD_non, qisDctD_dct, qisBooD_str, qisBooD_tup, qisBooD_lst, qisBooD_int, qisBooD_bl, qisBooD_non, qisBooD_dct, qisIntD_str, qisIntD_tup, qisIntD_lst, qisIntD_int, qisIntD_bl, qisIntD_non, qisIntD_dct, qAddI, qAddS, qAddT, qAddL, qInt, qSlT, qSlL, qSlS, qEqI, qEqS, qEqB, qEqN, qEqT, qEqL, qIxT0, qIxT1, qIxT2, qIxL0, qIxL1, qLenT, qLenL, qLenS, qTupT, qTupL, qLstT, qLstL, qIt, qItL, qIntI, qBl, qTrT, qTrL, qTrI, qTrN, qNoN, qNoT, qNoL, qNoI, qNoS])
local macro_rules | `(tactic| walk_at "run") => `(tactic| ((try walk_at "rw"); (try walk_at "st"); (try walk_at "rw")))
local macro_rules | `(tactic| walk_at "dl") => `(tactic| simp only [wBo, w2, rdEq2, dEq, wNameS, wName, wC, startD, List.map_cons, List.map_nil, List.cons_append, List.nil_append, getS, AV.sv, rd1, List.length_cons, List.length_nil, List.replicate, endE, frzD, wBack, List.set, wOr, wAnd, wNot, wTru, wIs, wIf, wAndV, wOrV, wNotV, wIxC, ixC, nthD, dLen, dTuple, dList, dat_va, dat_fr, sv_va, sv_fr, gtName, gtCons, gtNil, gtTup, truD, wFrz, wIfS, if_true, if_false, Bool.false_eq_true, isStrD, isTupD, isLstD, isBooD, isIntD, isDctD, Bool.not_true, Bool.not_false, decide_true, decide_false, Nat.sub_zero, Nat.succ_sub_succ_eq_sub, ite_true, ite_false, reduceIte, true_and, and_true])

def fs_laid : FSp := fun as Q => ∃ (rs : List Rw) (d : PyData), as = [.va d] ∧ (d = .list (rs.map Rw.toD) ∨ d = .tuple (rs.map Rw.toD)) ∧ Rw.nodesL rs ≤ 100000 ∧ Q (.va (optR (laidR rs)))
theorem mo_laid : MoF fs_laid := fun as Q Q' k ⟨rs, d, h1, h2, h3, h4⟩ => ⟨rs, d, h1, h2, h3, k _ h4⟩
theorem isJ_word (r : Rw) : decide (r.word = sJ) = r.isJ := Rw.word_J r
section
variable {P : Program} {w : World} {K : PySem.W.Frag} {mg : Str → Option Value} {base : Heap}
theorem ok_laid (T : Top K mg base) : FnG P w K mg base CX0 (1) T.f_laid T.d_laid ["rows"] (PSp K 1 (fs_laid)) := by
  refine fn_data T.F_laid sc_laid (fun cdv A outer s H E hr => (evb_cons (evs_ifS (evt_cmp (od_eq2 hr.rm.units) (evr_blt cd_len T.b_len (by decide +kernel) (evl_cons (ev_nameS 0) evl_nil)).cl ev_int) (evb_one (evs_ret (ev_non).rv)) evb_nil)
    (evb_cons (evs_ifS (evt_cmp (od_eq2 hr.rm.units) (evr_blt cd_len T.b_len (by decide +kernel) (evl_cons (ev_nameS 0) evl_nil)).cl ev_int) (evb_one (evs_ret (evr_ixC 0 (ev_nameS 0)))) evb_nil)
    (evb_cons (evs_par 1 2 (ev_lst evl_nil) (evr_back (evr_typ cd_list T.b_list (by decide +kernel) (evl_cons (ev_nameS 0) evl_nil)).cl) rfl sc_laid.nd)
    (evb_cons (evs_while (evt_tru (ev_nameS 2)) (evb_cons (evs_setM 3 (evm_pop 2) sc_laid.nd)
     (evb_one (evs_ifS (evt_cmp (od_eq2 hr.rm.units) (evr_ixC 0 (ev_nameS 3)).cl ev_str) (evb_one (evs_extend 2 (evr_back (evr_ixC 1 (ev_nameS 3)).cl).cl)) (evb_one (evs_append 1 (ev_name 3).rv))))))
    (evb_frz 2 (evb_frz 1 (evb_one (evs_ret (ev_tup (evl_cons ev_str (evl_cons (evr_typ cd_tuple T.b_tuple (by decide +kernel) (evl_cons (ev_nameS 1) evl_nil)).cl evl_nil)))))))))))) (fun as Q hn hq => ?_)
  obtain ⟨rs, d, rfl, hd, hz, q⟩ := hq
  have len : ∀ Q : RV → Prop, Q (.va (.int rs.length)) → dLen d Q := by
    intro Q q0
    rcases hd with rfl | rfl <;> (simp only [dLen, List.length_map]; exact q0)
  have lst : ∀ Q : RV → Prop, Q (.fr (rs.map Rw.toD)) → dList d Q := by
    intro Q q0
    rcases hd with rfl | rfl <;> exact q0
  have at0 : ∀ (r : Rw) (rest : List Rw) (Q : RV → Prop), rs = r :: rest → Q (.va r.toD) → ixC 0 d Q := by
    intro r rest Q e q0
    subst e
    rcases hd with rfl | rfl <;> exact q0
  clear hd
  walk_at "st"
  refine len _ ?_
  walk_at "st"
  cases rs with
  | nil => exact q
  | cons r0 rest =>
  refine ite3 (fun h => absurd (of_decide_eq_true h) (by simp only [List.length_cons]; omega)) (fun _ => ?_)
  refine len _ ?_
  walk_at "st"
  cases rest with
  | nil => exact at0 r0 [] _ rfl q
  | cons r1 rest =>
  refine ite3 (fun h => absurd (of_decide_eq_true h) (by simp only [List.length_cons]; omega)) (fun _ => ?_)
  refine ⟨Nat.zero_le _, ?_⟩
  refine lst _ ?_
  walk_at "st"
  refine ⟨fun m sd => ∃ (wt fd : List Rw) (y : SV), sd = [.va d, .ow (fd.map Rw.toD), .ow (wt.map Rw.toD), y] ∧ fd ++ Rw.openedL wt.reverse = Rw.openedL (r0 :: r1 :: rest) ∧ Rw.nodesL wt = m ∧ fd.length + m ≤ 100000,
    ⟨_, (r0 :: r1 :: rest).reverse, [], .un, by rw [List.map_reverse]; rfl, by rw [List.reverse_reverse]; rfl, rfl, by rw [Rw.nodesL_rev]; simpa using hz⟩, ?_⟩
  rintro m sd ⟨wt, fd, y, rfl, h1, h2, h3⟩
  rcases nil_or_snoc wt with rfl | ⟨init, r, rfl⟩
  · simp only [List.reverse_nil, Rw.openedL, List.append_nil] at h1
    refine ⟨sl2, ?_⟩
    simp only [laidR, optR, Rw.toD, Rw.toDs_eq] at q
    show Q (.va (.tuple [.str sJ, .tuple (fd.map Rw.toD)]))
    rw [h1]
    exact q
  · have h2' : Rw.nodesL init + r.nodes = m := by rw [← h2, Rw.nodesL_app]; simp only [Rw.nodesL]; omega
    have ro : (init ++ [r]).reverse = r :: init.reverse := by simp
    rw [ro, Rw.openedL_cons r init.reverse] at h1
    have lm : (List.map Rw.toD (init ++ [r])).isEmpty = false := by simp
    have hp := r.nodes_pos
    simp only [wTru, wNameS, getS, truD, lm, Bool.not_false, if_true]
    show onOw 2 _ _
    rw [onOw_ow rfl, List.map_append, List.map_cons, List.map_nil, List.getLast?_concat]
    simp only [List.dropLast_concat, List.set, sv_va, getS]
    refine ixC_wordA r ?_
    simp only [dat_va, qEqS]
    refine ite3 (fun h => ?_) (fun h => ?_)
    · have h : decide (r.word = sJ) = true := h
      rw [isJ_word] at h
      obtain ⟨rs, rfl⟩ := isJ_join h
      have hn : (Rw.join rs).nodes = 1 + Rw.nodesL rs := by simp only [Rw.nodes]
      have hlr := Rw.len_le rs
      have hli := Rw.len_le init
      show onOw 2 _ _
      rw [onOw_ow rfl]
      simp only [Rw.toD]
      walk_at "st"
      refine ⟨by rw [List.length_map, List.length_reverse, Rw.toDs_eq, List.length_map, sizeLine_eq]; omega, Rw.nodesL init + Rw.nodesL rs, by omega, init ++ rs.reverse, fd, .va (.tuple [.str sJ, .tuple (Rw.toDs rs)]), ?_, ?_, ?_, by omega⟩
      · rw [List.map_append, List.map_reverse, Rw.toDs_eq]
      · rw [List.reverse_append, List.reverse_reverse, Rw.openedL_app, ← h1]
        simp only [Rw.opened]
      · rw [Rw.nodesL_app, Rw.nodesL_rev]
    · have h : ¬ decide (r.word = sJ) = true := h
      rw [isJ_word, Bool.not_eq_true] at h
      refine ⟨by rw [List.length_map, sizeLine_eq]; omega, _, ?_, init, fd ++ [r], _, by rw [List.map_append]; rfl, ?_, rfl, by rw [List.length_append]; simp only [List.length_cons, List.length_nil]; omega⟩
      · omega
      · rw [← h1, opened_not h, List.append_assoc]
end
/-- rows, or none, laid -/
def fs_laid_of : FSp := fun as Q => ∃ (os : List (Option Rw)), as = [.va (.list (os.map optR))] ∧ os.length ≤ 100000 ∧ Rw.nodesL (os.filterMap id) ≤ 100000 ∧ Q (.va (optR (laidR (os.filterMap id))))
theorem mo_laid_of : MoF fs_laid_of := fun as Q Q' k ⟨os, h1, h2, h3, h4⟩ => ⟨os, h1, h2, h3, k _ h4⟩
theorem lcW_opts {g : WG} {t : WB} {we : WR} {sd : SD} : ∀ (os : List (Option Rw)) (Q : List PyData → Prop),
    (∀ o ∈ os, ∀ (A : PyData → Prop) (B : Prop), (if o.isSome = true then A (optR o) else B) → g (optR o) sd fun sd2 => t sd2 fun b => if b = true then we sd2 (fun z => A z.dat) else B) →
    Q ((os.filterMap id).map Rw.toD) → lcW g t we sd (os.map optR) Q
  | [], Q, _, q => q
  | none :: os, Q, h, q => h none List.mem_cons_self (fun x => lcW g t we sd (os.map optR) fun out => Q (x :: out)) (lcW g t we sd (os.map optR) Q) (lcW_opts os Q (fun e m => h e (List.mem_cons_of_mem _ m)) q)
  | some r :: os, Q, h, q => h (some r) List.mem_cons_self (fun x => lcW g t we sd (os.map optR) fun out => Q (x :: out)) _ (lcW_opts os _ (fun e m => h e (List.mem_cons_of_mem _ m)) q)
theorem isNon_optR (o : Option Rw) : isNon (optR o) = !o.isSome := by
  cases o with
  | none => rfl
  | some r => cases r <;> rfl
section
variable {P : Program} {w : World} {K : PySem.W.Frag} {mg : Str → Option Value} {base : Heap}
theorem ok_laid_of (T : Top K mg base) : FnG P w K mg base CX0 (2) T.f_laid_of T.d_laid_of ["rows"] (PSp K 1 (fs_laid_of)) := by
  refine fn_data T.F_laid_of sc_laid_of (fun cdv A outer s H E hr => (evb_one (evs_ret (evr_call (ok_laid T) mo_laid (hr.mono (by omega)) T.C_laid.hm T.C_laid.hk T.C_laid.hb (eva_cons ((evc_lc (own := [("row", 1)]) (ev_nameS 0) (blkOk_by (N := ["rows", "row"]) (sc := defScope s_laid_of) (by decide +kernel)) (fun _ _ _ _ _ => (evg_name 1 sc_laid_of.nd)) (fun _ _ _ _ _ => (evi_one (evt_notN (ev_nameS 1).bo))) (fun _ _ _ _ _ => (ev_name 1).rv)).rv rfl sc_laid_of.nd).cl eva_nil))))) (fun as Q hn hq => ?_)
  obtain ⟨os, rfl, hl, hz, q⟩ := hq
  walk_at "st"
  refine ⟨⟨rfl, by rw [List.length_map, sizeLine_eq]; omega⟩, lcW_opts os _ (fun o _ A B h => ?_) ⟨os.filterMap id, .list _, rfl, .inl rfl, hz, q⟩⟩
  show if (!isNon (optR o)) = true then A (optR o) else B
  rw [isNon_optR, Bool.not_not]
  exact h
end
end K17

set_option Elab.async false
set_option linter.all false
set_option maxRecDepth 100000
set_option maxHeartbeats 400000
namespace K17
open PySem PySem.Spec PyProof.Rows L2 DL
variable [Tb]
local macro_rules | `(tactic| walk_at "rw") => `(tactic| simp only [d01, d0m, dm0, d10, Rw.toD, rdIn, wds, flatD, List.all_cons, List.all_nil, dw, Bool.true_or, Bool.false_or, Bool.or_false, Bool.or_true, Bool.true_and, Bool.and_true, Bool.false_and, Bool.and_false, Bool.not_true, Bool.not_false, decide_true, decide_false, true_and, and_true, if_true, if_false, Bool.false_eq_true, reduceIte, Nat.zero_add, Nat.reduceAdd, ite_self, wJR, wJL, wJM, wRJ, wRL, wRM, wLJ, wLR, wLM, wMJ, wMR, wML])
local macro_rules | `(tactic| walk_at "st") => `(tactic| simp only [wBo, w2, rdEq2, wNameS, wName, wC, wPart, startD, List.map_cons, List.map_nil, List.cons_append, List.nil_append, getS, AV.sv, rd1, List.length_cons, List.length_nil, List.replicate, endE, frzD, List.set, wOr, wAnd, wNot, wTru, wIs, wIf, wAndV, wOrV, wNotV, wIxC, wNeg, dat_va, dat_fr, sv_va, sv_fr, gtName, gtCons, gtNil, gtTup, wFrz, wBack, wIfS, wAugI, wPar3, wIsN, if_true, if_false, Bool.false_eq_true, Bool.not_true, Bool.not_false, decide_true, decide_false, Nat.sub_zero, Nat.succ_sub_succ_eq_sub, ite_true, ite_false, reduceIte, true_and, and_true, Nat.zero_add, Nat.reduceAdd, qisStrD_str, qisStrD_tup, qisStrD_lst, qisStrD_int, qisStrD_bl, qisStrD_non, qisStrD_dct, qisTupD_str, qisTupD_tup, qisTupD_lst, qisTupD_int, qisTupD_bl, qisTupD_non, qisTupD_dct, qisLstD_str, qisLstD_tup, qisLstD_lst, qisLstD_int, qisLstD_bl, qisLstD_non, qisLstD_dct, qisDctD_str, qisDctD_tup, qisDctD_lst, qisDctD_int, qisDctD_bl, qisDctD_non, qisDctD_dct, qisBooD_str, qisBooD_tup, qisBooD_lst, qisBooD_int, qisBooD_bl, qisBooD_non, qisBooD_dct, qisIntD_str, qisIntD_tup, qisIntD_lst, qisIntD_int, qisIntD_bl, qisIntD_non, qisIntD_dct, qAddI, qAddS, qAddT, qAddL, qInt, qSlT, qSlL, qSlS, qEqI, qEqS, qEqB, qEqN, qEqT, qEqL, qIxT0, qIxT1, qIxT2, qIxL0, qIxL1, qLenT, qLenL, qLenS, qTupT, qTupL, qLstT, qLstL, qIt, qItL, qIntI, qBl, qTrT, qTrL, qTrI, qTrN, qNoN, qNoT, qNoL, qNoI, qNoS])
local macro_rules | `(tactic| walk_at "run") => `(tactic| ((try walk_at "rw"); (try walk_at "st"); (try walk_at "rw")))
local macro_rules | `(tactic| walk_at "dl") => `(tactic| simp only [wBo, w2, rdEq2, dEq, wNameS, wName, wC, startD, List.map_cons, List.map_nil, List.cons_append, List.nil_append, getS, AV.sv, rd1, List.length_cons, List.length_nil, List.replicate, endE, frzD, wBack, List.set, wOr, wAnd, wNot, wTru, wIs, wIf, wAndV, wOrV, wNotV, wIxC, ixC, nthD, dLen, dTuple, dList, dat_va, dat_fr, sv_va, sv_fr, gtName, gtCons, gtNil, gtTup, truD, wFrz, wIfS, if_true, if_false, Bool.false_eq_true, isStrD, isTupD, isLstD, isBooD, isIntD, isDctD, Bool.not_true, Bool.not_false, decide_true, decide_false, Nat.sub_zero, Nat.succ_sub_succ_eq_sub, ite_true, ite_false, reduceIte, true_and, and_true])

/-- what else is there on a side -/
def fs__parts_ahead : FSp := fun as Q => ∃ (r s : Rw) (k : Int) (rest : List Int), Step r (k :: rest) s ∧ (0 ≤ k ∧ k < 128) ∧ as = [.va r.toD, .va (.int k)] ∧ r.nodes ≤ 1000 ∧ Q (.fr ((beyond false r (k :: rest)).map Rw.toD))
theorem mo__parts_ahead : MoF fs__parts_ahead := fun as Q Q' k ⟨r, s, a, b, h1, h2, h3, h4, h5⟩ => ⟨r, s, a, b, h1, h2, h3, h4, k _ h5⟩
theorem repl_flat {α : Type} (x : α) (n : Nat) : (List.replicate n [x]).flatten = List.replicate n x := by
  induction n with
  | zero => rfl
  | succ n ih => rw [List.replicate_succ, List.flatten_cons, ih, List.replicate_succ]; rfl
section
variable {P : Program} {w : World} {K : PySem.W.Frag} {mg : Str → Option Value} {base : Heap}
theorem ok__parts_ahead (T : Top K mg base) : FnG P w K mg base CX0 (1) T.f__parts_ahead T.d__parts_ahead ["dealing", "k"] (PSp K 2 (fs__parts_ahead)) := by
  refine fn_data T.F__parts_ahead sc__parts_ahead (fun cdv A outer s H E hr => (evb_cons (evs_asg (evm_frz 0) (evg_tup (n := 2) rfl (evgs_cons (evg_name 2 sc__parts_ahead.nd) (evgs_cons (evg_name 3 sc__parts_ahead.nd) evgs_nil))))
    (evb_cons (evs_ifS (evt_cmp (od_eq2 hr.rm.units) (ev_nameS 2).bo ev_str) (evb_one (evs_ret (evr_typ cd_list T.b_list (by decide +kernel) (evl_cons (evr_slice (ev_nameS 3) evo_none (evo_some (ev_nameS 1))).cl evl_nil)))) evb_nil)
    (evb_one (evs_ret (evr_if (evt_cmp (od_eq2 hr.rm.units) (ev_nameS 2).bo ev_str) (evr_op od_mul (ev_lst (evl_cons (ev_name 3) evl_nil)).cl (ev_nameS 1)) (ev_lst (evl_cons (ev_name 0) evl_nil)))))))) (fun as Q hn hq => ?_)
  obtain ⟨r, s, k, rest, hs, ⟨k0, k1⟩, rfl, hz, q⟩ := hq
  cases hs with
  | @join rs _ k h =>
    have e : ((k : Int)).toNat = k := Int.toNat_natCast k
    simp only [beyond, e, Bool.false_eq_true, if_false] at q
    walk_at "run"
    rw [Rw.toDs_eq, cut_to, ← List.map_take]
    exact q
  | right i =>
    simp only [beyond, Bool.false_eq_true, if_false, List.map_replicate] at q
    walk_at "run"
    refine ⟨by decide, ⟨by omega, by omega, by show 1 ≤ 1000; decide⟩, ?_⟩
    rw [repl_flat]
    exact q
  | left i =>
    walk_at "run"
    exact ⟨by decide, q⟩
  | mix k n h =>
    walk_at "run"
    exact ⟨by decide, q⟩
end
def fs__parts_behind : FSp := fun as Q => ∃ (r s : Rw) (k : Int) (rest : List Int), Step r (k :: rest) s ∧ (0 ≤ k ∧ k < 128) ∧ as = [.va r.toD, .va (.int k)] ∧ r.nodes ≤ 1000 ∧ Q (.fr ((beyond true r (k :: rest)).map Rw.toD))
theorem mo__parts_behind : MoF fs__parts_behind := fun as Q Q' k ⟨r, s, a, b, h1, h2, h3, h4, h5⟩ => ⟨r, s, a, b, h1, h2, h3, h4, k _ h5⟩
section
variable {P : Program} {w : World} {K : PySem.W.Frag} {mg : Str → Option Value} {base : Heap}
theorem ok__parts_behind (T : Top K mg base) : FnG P w K mg base CX0 (1) T.f__parts_behind T.d__parts_behind ["dealing", "k"] (PSp K 2 (fs__parts_behind)) := by
  refine fn_data T.F__parts_behind sc__parts_behind (fun cdv A outer s H E hr => (evb_cons (evs_asg (evm_frz 0) (evg_tup (n := 2) rfl (evgs_cons (evg_name 2 sc__parts_behind.nd) (evgs_cons (evg_name 3 sc__parts_behind.nd) evgs_nil))))
    (evb_cons (evs_ifS (evt_cmp (od_eq2 hr.rm.units) (ev_nameS 2).bo ev_str) (evb_one (evs_ret (evr_typ cd_list T.b_list (by decide +kernel) (evl_cons (evr_slice (ev_nameS 3) (evo_some (evr_op od_add (ev_nameS 1) ev_int).cl) evo_none).cl evl_nil)))) evb_nil)
    (evb_one (evs_ret (evr_if (evt_cmp (od_eq2 hr.rm.units) (ev_nameS 2).bo ev_str) (evr_op od_mul (ev_lst (evl_cons (ev_name 3) evl_nil)).cl (ev_nameS 1)) (ev_lst (evl_cons (ev_name 0) evl_nil)))))))) (fun as Q hn hq => ?_)
  obtain ⟨r, s, k, rest, hs, ⟨k0, k1⟩, rfl, hz, q⟩ := hq
  cases hs with
  | @join rs _ k h =>
    have e : ((k : Int)).toNat = k := Int.toNat_natCast k
    have e2 : ((k : Int)) + 1 = ((k + 1 : Nat) : Int) := rfl
    simp only [beyond, e, if_true] at q
    walk_at "run"
    rw [Rw.toDs_eq, e2, cut_from, ← List.map_drop]
    exact q
  | left i =>
    simp only [beyond, if_true, List.map_replicate] at q
    walk_at "run"
    refine ⟨by decide, ⟨by omega, by omega, by show 1 ≤ 1000; decide⟩, ?_⟩
    rw [repl_flat]
    exact q
  | right i =>
    walk_at "run"
    exact ⟨by decide, q⟩
  | mix k n h =>
    walk_at "run"
    exact ⟨by decide, q⟩
end
/-- what is ahead, step by step -/
def fs_ahead : FSp := fun as Q => ∃ (r : Rw) (p : List Int) (ss : List (Rw × List Int × Nat)) (c : Fin 26), Way r p 0 ss c ∧ SmB p ∧ r.nodes ≤ 60 ∧ r.dep ≤ 8 ∧ as = [.va r.toD, .va (intsD p)] ∧ Q (.va (optR (sideF false ss)))
theorem mo_ahead : MoF fs_ahead := fun as Q Q' k ⟨r, s, a, b, h1, h2, h3, h4, h5, h6⟩ => ⟨r, s, a, b, h1, h2, h3, h4, h5, k _ h6⟩
/-- the steps of a way, each a step -/
theorem way_steps {r : Rw} {p : List Int} {n : Nat} {ss : List (Rw × List Int × Nat)} {c : Fin 26} (w : Way r p n ss c) : SmB p → ss.length ≤ r.dep ∧ ∀ x ∈ ss, ∃ s, Step x.1 x.2.1 s ∧ SmB x.2.1 ∧ x.1.nodes ≤ r.nodes := by
  induction w with
  | «let» c n => intro _; exact ⟨Nat.zero_le _, fun x m => by cases m⟩
  | @step r u key p n ss c st w ih =>
    intro hs
    obtain ⟨h1, h2⟩ := hs.of_app
    obtain ⟨i1, i2⟩ := ih h2
    have := st.dep
    have hn := st.nodes
    refine ⟨by simp only [List.length_cons]; omega, fun x m => ?_⟩
    rcases List.mem_cons.mp m with rfl | m
    · exact ⟨u, st, h1, Nat.le_refl _⟩
    · obtain ⟨s, a, b, d⟩ := i2 x m
      exact ⟨s, a, b, by omega⟩
/-- how the loop goes from behind -/
theorem side_app (s : Bool) (ss : List (Rw × List Int × Nat)) (x : Rw × List Int × Nat) : sideF s (x :: ss) = laidR (if s then (sideF s ss).toList ++ beyond s x.1 x.2.1 else beyond s x.1 x.2.1 ++ (sideF s ss).toList) := by simp only [sideF]
theorem fm_rows (rs : List Rw) (o : Option Rw) : (rs.map some ++ [o]).filterMap id = rs ++ o.toList := by
  induction rs with
  | nil => cases o <;> rfl
  | cons r rs ih => simp only [List.map_cons, List.cons_append, List.filterMap_cons, id, ih]
theorem fm_rows2 (rs : List Rw) (o : Option Rw) : (o :: rs.map some).filterMap id = o.toList ++ rs := by
  have h : (rs.map some).filterMap id = rs := by
    induction rs with
    | nil => rfl
    | cons r rs ih => simp only [List.map_cons, List.filterMap_cons, id, ih]
  cases o with
  | none => simpa using h
  | some r => simp only [List.filterMap_cons, id, h]; rfl
theorem way_tail {r : Rw} {p : List Int} {n : Nat} {ss : List (Rw × List Int × Nat)} {c : Fin 26} (w : Way r p n ss c) : ∀ (pre post : List (Rw × List Int × Nat)), ss = pre ++ post → ∃ r' p' n', Way r' p' n' post c ∧ (SmB p → SmB p') ∧ r'.nodes ≤ r.nodes ∧ r'.dep ≤ r.dep := by
  induction w with
  | «let» c n =>
    intro pre post e
    have e := List.append_eq_nil_iff.mp e.symm
    rw [e.2]
    exact ⟨_, _, n, .let c n, id, Nat.le_refl _, Nat.le_refl _⟩
  | @step r u key p n ss c st w ih =>
    intro pre post e
    cases pre with
    | nil => simp only [List.nil_append] at e; rw [← e]; exact ⟨_, _, _, .step st w, id, Nat.le_refl _, Nat.le_refl _⟩
    | cons x pre =>
      simp only [List.cons_append, List.cons.injEq] at e
      obtain ⟨r', p', n', w', h1, h2, h3⟩ := ih pre post e.2
      have := st.nodes
      have := st.dep
      exact ⟨r', p', n', w', fun hs => h1 hs.of_app.2, by omega, by omega⟩
theorem opt_map (rs : List Rw) : rs.map Rw.toD = (rs.map some).map optR := by rw [List.map_map]; rfl
/-- what the loop's turn needs -/
theorem turn_facts (s : Bool) {r : Rw} {p : List Int} {ss init done : List (Rw × List Int × Nat)} {c : Fin 26} {xr : Rw} {key : List Int} {n : Nat} (w : Way r p 0 ss c) (hs : SmB p) (hz : r.nodes ≤ 60) (hd : r.dep ≤ 8) (e : ss = (init ++ [(xr, key, n)]) ++ done) :
    ∃ (u : Rw) (k : Int) (rest : List Int), key = k :: rest ∧ Step xr (k :: rest) u ∧ (0 ≤ k ∧ k < 128) ∧ xr.nodes ≤ 60 ∧ (beyond s xr key).length + 1 ≤ 10000 ∧ Rw.nodesL (beyond s xr key) + Rw.nodesL (sideF s done).toList ≤ 99999 := by
  obtain ⟨hlen, hst⟩ := way_steps w hs
  obtain ⟨u, st, sm, hn⟩ := hst (xr, key, n) (by rw [e]; simp)
  obtain ⟨r', p', n', w', a1, a2, a3⟩ := way_tail w (init ++ [(xr, key, n)]) done e
  have st : Step xr key u := st
  have sm : SmB key := sm
  have hn : xr.nodes ≤ r.nodes := hn
  have b := beyond_factsB s st sm
  have bl := Rw.len_le (beyond s xr key)
  have sd : Rw.nodesL (sideF s done).toList ≤ done.length * 7681 := by
    rw [toList_nodes]
    cases h : sideF s done with
    | none => exact Nat.zero_le _
    | some t => exact (side_factsB s w' 7681 (a1 hs) (by omega) t h).2
  have hl : done.length ≤ 8 := by
    have := congrArg List.length e
    simp only [List.length_append] at this
    omega
  have hm : done.length * 7681 ≤ 8 * 7681 := Nat.mul_le_mul_right _ hl
  have hnn : xr.nodes ≤ r.nodes := hn
  have stl := st.len
  match key, st, sm with
  | [], st, _ => simp at stl; split at stl <;> omega
  | k :: rest, st, sm => exact ⟨u, k, rest, rfl, st, sm k List.mem_cons_self, by omega, by omega, by omega⟩
theorem rev_snoc {α β : Type} {f : α → β} {xs : List α} {d : β} {ds : List β} (e : d :: ds = (xs.map f).reverse) : ∃ init x, xs = init ++ [x] ∧ d = f x ∧ ds = (init.map f).reverse := by
  rcases nil_or_snoc xs with rfl | ⟨init, x, rfl⟩
  · simp at e
  · simp only [List.map_append, List.map_cons, List.map_nil, List.reverse_append, List.reverse_cons, List.reverse_nil, List.nil_append, List.cons_append, List.cons.injEq] at e
    exact ⟨init, x, rfl, e.1, e.2⟩
section
variable {P : Program} {w : World} {K : PySem.W.Frag} {mg : Str → Option Value} {base : Heap}
theorem ok_ahead (T : Top K mg base) : FnG P w K mg base CX0 (4) T.f_ahead T.d_ahead ["row", "place"] (PSp K 2 (fs_ahead)) := by
  refine fn_data T.F_ahead sc_ahead (fun cdv A outer s H E hr => (evb_cons (evs_set 2 (ev_non).rv sc_ahead.nd)
    (evb_cons (evs_for (evr_back (evr_call (ok_way_to T) mo_way_to (hr.mono (by omega)) T.C_way_to.hm T.C_way_to.hk T.C_way_to.hb (eva_cons (ev_name 0) (eva_cons (ev_name 1) eva_nil))).cl).m (evg_tup (n := 3) rfl (evgs_cons (evg_name 3 sc_ahead.nd) (evgs_cons (evg_name 4 sc_ahead.nd) (evgs_cons (evg_name 5 sc_ahead.nd) evgs_nil)))) (evb_one (evs_set 2 (evr_call (ok_laid_of T) mo_laid_of (hr.mono (by omega)) T.C_laid_of.hm T.C_laid_of.hk T.C_laid_of.hb (eva_cons (ev_lst (evl_star (evr_call (ok__parts_ahead T) mo__parts_ahead (hr.mono (by omega)) T.C__parts_ahead.hm T.C__parts_ahead.hk T.C__parts_ahead.hb (eva_cons (ev_name 3) (eva_cons (evr_ixC 0 (ev_nameS 4)).cl eva_nil))).cl (evl_cons (ev_name 2) evl_nil))).cl eva_nil)) sc_ahead.nd)) rfl)
    (evb_one (evs_retO 2))))) (fun as Q hn hq => ?_)
  obtain ⟨r, p, ss, c, w, hs, hz, hd8, rfl, q⟩ := hq
  refine ⟨rfl, r, p, ss, c, w, by omega, rfl, ?_⟩
  refine forW_inv (fun ds sd => ∃ (todo done : List (Rw × List Int × Nat)) (y3 y4 y5 : SV), ds = (todo.map stepD).reverse ∧ ss = todo ++ done ∧ sd = [.va r.toD, .va (intsD p), .va (optR (sideF false done)), y3, y4, y5]) ?_ ?_ _ _ ⟨ss, [], _, _, _, rfl, by rw [List.append_nil], rfl⟩
  · rintro sd ⟨todo, done, y3, y4, y5, e, h1, rfl⟩
    have : todo = [] := by
      have := congrArg List.length e
      simp at this
      exact List.eq_nil_of_length_eq_zero this.symm
    subst this
    simp only [List.nil_append] at h1
    subst h1
    exact q
  · rintro d ds sd k hk ⟨todo, done, y3, y4, y5, e, h1, rfl⟩
    obtain ⟨init, ⟨xr, key, n⟩, rfl, rfl, rfl⟩ := rev_snoc e
    obtain ⟨u, kk, rest, rfl, st, kb, hn, hl, hnn⟩ := turn_facts false w hs hz hd8 h1
    have nx := hk _ ⟨init, (xr, kk :: rest, n) :: done, .va xr.toD, .va (intsD (kk :: rest)), .va (.int n), rfl, by rw [h1]; simp, rfl⟩
    refine ⟨rfl, rfl, rfl, xr, u, kk, rest, st, kb, rfl, by omega, ?_⟩
    refine ⟨by rw [List.length_append, List.length_map, sizeLine_eq]; show _ + 1 ≤ _; omega, rfl, (beyond false xr (kk :: rest)).map some ++ [sideF false done], by rw [opt_map]; simp [List.map_append], by simp; omega, by rw [fm_rows, Rw.nodesL_app]; omega, ?_⟩
    rw [fm_rows]
    rw [side_app] at nx
    exact nx
end
/-- what is behind, step by step -/
def fs_behind : FSp := fun as Q => ∃ (r : Rw) (p : List Int) (ss : List (Rw × List Int × Nat)) (c : Fin 26), Way r p 0 ss c ∧ SmB p ∧ r.nodes ≤ 60 ∧ r.dep ≤ 8 ∧ as = [.va r.toD, .va (intsD p)] ∧ Q (.va (optR (sideF true ss)))
theorem mo_behind : MoF fs_behind := fun as Q Q' k ⟨r, s, a, b, h1, h2, h3, h4, h5, h6⟩ => ⟨r, s, a, b, h1, h2, h3, h4, h5, k _ h6⟩
section
variable {P : Program} {w : World} {K : PySem.W.Frag} {mg : Str → Option Value} {base : Heap}
theorem ok_behind (T : Top K mg base) : FnG P w K mg base CX0 (4) T.f_behind T.d_behind ["row", "place"] (PSp K 2 (fs_behind)) := by
  refine fn_data T.F_behind sc_behind (fun cdv A outer s H E hr => (evb_cons (evs_set 2 (ev_non).rv sc_behind.nd)
    (evb_cons (evs_for (evr_back (evr_call (ok_way_to T) mo_way_to (hr.mono (by omega)) T.C_way_to.hm T.C_way_to.hk T.C_way_to.hb (eva_cons (ev_name 0) (eva_cons (ev_name 1) eva_nil))).cl).m (evg_tup (n := 3) rfl (evgs_cons (evg_name 3 sc_behind.nd) (evgs_cons (evg_name 4 sc_behind.nd) (evgs_cons (evg_name 5 sc_behind.nd) evgs_nil)))) (evb_one (evs_set 2 (evr_call (ok_laid_of T) mo_laid_of (hr.mono (by omega)) T.C_laid_of.hm T.C_laid_of.hk T.C_laid_of.hb (eva_cons (ev_lst (evl_cons (ev_name 2) (evl_star (evr_call (ok__parts_behind T) mo__parts_behind (hr.mono (by omega)) T.C__parts_behind.hm T.C__parts_behind.hk T.C__parts_behind.hb (eva_cons (ev_name 3) (eva_cons (evr_ixC 0 (ev_nameS 4)).cl eva_nil))).cl evl_nil))).cl eva_nil)) sc_behind.nd)) rfl)
    (evb_one (evs_retO 2))))) (fun as Q hn hq => ?_)
  obtain ⟨r, p, ss, c, w, hs, hz, hd8, rfl, q⟩ := hq
  refine ⟨rfl, r, p, ss, c, w, by omega, rfl, ?_⟩
  refine forW_inv (fun ds sd => ∃ (todo done : List (Rw × List Int × Nat)) (y3 y4 y5 : SV), ds = (todo.map stepD).reverse ∧ ss = todo ++ done ∧ sd = [.va r.toD, .va (intsD p), .va (optR (sideF true done)), y3, y4, y5]) ?_ ?_ _ _ ⟨ss, [], _, _, _, rfl, by rw [List.append_nil], rfl⟩
  · rintro sd ⟨todo, done, y3, y4, y5, e, h1, rfl⟩
    have : todo = [] := by
      have := congrArg List.length e
      simp at this
      exact List.eq_nil_of_length_eq_zero this.symm
    subst this
    simp only [List.nil_append] at h1
    subst h1
    exact q
  · rintro d ds sd k hk ⟨todo, done, y3, y4, y5, e, h1, rfl⟩
    obtain ⟨init, ⟨xr, key, n⟩, rfl, rfl, rfl⟩ := rev_snoc e
    obtain ⟨u, kk, rest, rfl, st, kb, hn, hl, hnn⟩ := turn_facts true w hs hz hd8 h1
    have nx := hk _ ⟨init, (xr, kk :: rest, n) :: done, .va xr.toD, .va (intsD (kk :: rest)), .va (.int n), rfl, by rw [h1]; simp, rfl⟩
    refine ⟨rfl, rfl, rfl, xr, u, kk, rest, st, kb, rfl, by omega, ?_⟩
    refine ⟨by simp only [List.append_nil, List.length_cons, List.length_map]; rw [sizeLine_eq]; omega, rfl, sideF true done :: (beyond true xr (kk :: rest)).map some, by rw [opt_map]; simp [List.map_append], by simp; omega, by rw [fm_rows2, Rw.nodesL_app]; omega, ?_⟩
    rw [fm_rows2]
    rw [side_app] at nx
    exact nx
end
end K17

set_option Elab.async false
set_option linter.all false
set_option maxRecDepth 100000
set_option maxHeartbeats 400000
namespace K17
open PySem PySem.Spec PyProof.Rows L2 DL
variable [Tb]
local macro_rules | `(tactic| walk_at "rw") => `(tactic| simp only [d01, d0m, dm0, d10, Rw.toD, rdIn, wds, flatD, List.all_cons, List.all_nil, dw, Bool.true_or, Bool.false_or, Bool.or_false, Bool.or_true, Bool.true_and, Bool.and_true, Bool.false_and, Bool.and_false, Bool.not_true, Bool.not_false, decide_true, decide_false, true_and, and_true, if_true, if_false, Bool.false_eq_true, reduceIte, Nat.zero_add, Nat.reduceAdd, ite_self, wJR, wJL, wJM, wRJ, wRL, wRM, wLJ, wLR, wLM, wMJ, wMR, wML])
local macro_rules | `(tactic| walk_at "st") => `(tactic| simp only [wBo, w2, rdEq2, wNameS, wName, wC, wPart, startD, List.map_cons, List.map_nil, List.cons_append, List.nil_append, getS, AV.sv, rd1, List.length_cons, List.length_nil, List.replicate, endE, frzD, List.set, wOr, wAnd, wNot, wTru, wIs, wIf, wAndV, wOrV, wNotV, wIxC, wNeg, dat_va, dat_fr, sv_va, sv_fr, gtName, gtCons, gtNil, gtTup, wFrz, wBack, wIfS, wAugI, wPar3, wIsN, if_true, if_false, Bool.false_eq_true, Bool.not_true, Bool.not_false, decide_true, decide_false, Nat.sub_zero, Nat.succ_sub_succ_eq_sub, ite_true, ite_false, reduceIte, true_and, and_true, Nat.zero_add, Nat.reduceAdd, qisStrD_str, qisStrD_tup, qisStrD_lst, qisStrD_int, qisStrD_bl, qisStrD_non, qisStrD_dct, qisTupD_str, qisTupD_tup, qisTupD_lst, qisTupD_int, qisTupD_bl, qisTupD_non, qisTupD_dct, qisLstD_str, qisLstD_tup, qisLstD_lst, qisLstD_int, qisLstD_bl, qisLstD_non, qisLstD_dct, qisDctD_str, qisDctD_tup, qisDctD_lst, qisDctD_int, qisDctD_bl, qisDctD_non, qisDctD_dct, qisBooD_str, qisBooD_tup, qisBooD_lst, qisBooD_int, qisBooD_bl, qisBooD_non, qisBooD_dct, qisIntD_str, qisIntD_tup, qisIntD_lst, qisIntD_int, qisIntD_bl, qisIntD_non, qisIntD_dct, qAddI, qAddS, qAddT, qAddL, qInt, qSlT, qSlL, qSlS, qEqI, qEqS, qEqB, qEqN, qEqT, qEqL, qIxT0, qIxT1, qIxT2, qIxL0, qIxL1, qLenT, qLenL, qLenS, qTupT, qTupL, qLstT, qLstL, qIt, qItL, qIntI, qBl, qTrT, qTrL, qTrI, qTrN, qNoN, qNoT, qNoL, qNoI, qNoS])
local macro_rules | `(tactic| walk_at "run") => `(tactic| ((try walk_at "rw"); (try walk_at "st"); (try walk_at "rw")))
local macro_rules | `(tactic| walk_at "dl") => `(tactic| simp only [wBo, w2, rdEq2, dEq, wNameS, wName, wC, startD, List.map_cons, List.map_nil, List.cons_append, List.nil_append, getS, AV.sv, rd1, List.length_cons, List.length_nil, List.replicate, endE, frzD, wBack, List.set, wOr, wAnd, wNot, wTru, wIs, wIf, wAndV, wOrV, wNotV, wIxC, ixC, nthD, dLen, dTuple, dList, dat_va, dat_fr, sv_va, sv_fr, gtName, gtCons, gtNil, gtTup, truD, wFrz, wIfS, if_true, if_false, Bool.false_eq_true, isStrD, isTupD, isLstD, isBooD, isIntD, isDctD, Bool.not_true, Bool.not_false, decide_true, decide_false, Nat.sub_zero, Nat.succ_sub_succ_eq_sub, ite_true, ite_false, reduceIte, true_and, and_true])

/-- what is between two parts -/
def fs__parts_between : FSp := fun as Q => ∃ (r s s' : Rw) (k j : Int) (a b : List Int), Step r (k :: a) s ∧ Step r (j :: b) s' ∧ k :: a ≠ j :: b ∧ SmB (k :: a) ∧ SmB (j :: b) ∧ r.nodes ≤ 1000 ∧ as = [.va r.toD, .va (.int k), .va (.int j)] ∧ Q (.fr ((midR r (k :: a) (j :: b)).map Rw.toD))
theorem mo__parts_between : MoF fs__parts_between := fun as Q Q' k ⟨r, s, s', a, b, c, d, h1, h2, h3, h4, h5, h6, h7, h8⟩ => ⟨r, s, s', a, b, c, d, h1, h2, h3, h4, h5, h6, h7, k _ h8⟩
section
variable {P : Program} {w : World} {K : PySem.W.Frag} {mg : Str → Option Value} {base : Heap}
theorem ok__parts_between (T : Top K mg base) : FnG P w K mg base CX0 (1) T.f__parts_between T.d__parts_between ["dealing", "k", "j"] (PSp K 3 (fs__parts_between)) := by
  refine fn_data T.F__parts_between sc__parts_between (fun cdv A outer s H E hr => (evb_cons (evs_asg (evm_frz 0) (evg_tup (n := 2) rfl (evgs_cons (evg_name 3 sc__parts_between.nd) (evgs_cons (evg_name 4 sc__parts_between.nd) evgs_nil))))
    (evb_cons (evs_ifS (evt_cmp (od_eq2 hr.rm.units) (ev_nameS 3).bo ev_str) (evb_one (evs_ret (evr_typ cd_list T.b_list (by decide +kernel) (evl_cons (evr_slice (ev_nameS 4) (evo_some (evr_op od_add (ev_nameS 1) ev_int).cl) (evo_some (ev_nameS 2))).cl evl_nil)))) evb_nil)
    (evb_one (evs_ret (evr_if (evt_cmp (od_eq2 hr.rm.units) (ev_nameS 3).bo ev_str) (ev_lst (evl_cons (ev_name 0) evl_nil)) (evr_op od_mul (ev_lst (evl_cons (ev_name 4) evl_nil)).cl (evr_op od_sub (evr_blt cd_abs T.b_abs (by decide +kernel) (evl_cons (evr_op od_sub (ev_nameS 2) (ev_nameS 1)).cl evl_nil)).cl ev_int).cl))))))) (fun as Q hn hq => ?_)
  obtain ⟨r, s, s', k, j, a, b, st, st', ne, hk, hj, hz, rfl, q⟩ := hq
  cases st with
  | @join rs _ k h =>
    cases st' with
    | join j h' =>
      simp only [midR] at q
      walk_at "run"
      rw [Rw.toDs_eq, cutD_map]
      exact q
  | right i =>
    cases st' with
    | right j =>
      simp only [midR, List.map_replicate] at q
      walk_at "run"
      have h1 := hk _ List.mem_cons_self
      have h2 := hj _ List.mem_cons_self
      have n2 : i ≠ j := fun e => ne (by rw [e])
      have e : 0 ≤ absI ((j : Int) - (i : Int)) - 1 ∧ absI ((j : Int) - (i : Int)) - 1 ≤ 1000 := by unfold absI; split <;> omega
      refine ⟨by decide, trivial, ⟨e.1, e.2, by show 1 ≤ 1000; decide⟩, ?_⟩
      rw [repl_flat]
      exact q
  | left i =>
    cases st' with
    | left j =>
      simp only [midR, List.map_replicate] at q
      walk_at "run"
      have h1 := hk _ List.mem_cons_self
      have h2 := hj _ List.mem_cons_self
      have n2 : i ≠ j := fun e => ne (by rw [e])
      have e : 0 ≤ absI ((j : Int) - (i : Int)) - 1 ∧ absI ((j : Int) - (i : Int)) - 1 ≤ 1000 := by unfold absI; split <;> omega
      refine ⟨by decide, trivial, ⟨e.1, e.2, by show 1 ≤ 1000; decide⟩, ?_⟩
      rw [repl_flat]
      exact q
  | mix k n h =>
    cases st' with
    | mix j m h' =>
      walk_at "run"
      exact ⟨by decide, q⟩
end
def fs_between : FSp := fun as Q => ∃ (r : Rw) (p q : List Int) (r' : Rw) (k k' : List Int) (s s' : Rw) (p2 q2 : List Int) (sa sb : List (Rw × List Int × Nat)) (ca cb : Fin 26), PX r p q r' k k' s s' p2 q2 ∧ Way s p2 0 sa ca ∧ Way s' q2 0 sb cb ∧ (AdS r p ∧ AdS r q) ∧ (SmB p ∧ SmB q) ∧ r.nodes ≤ 30 ∧ r.dep ≤ 8 ∧ as = [.va r.toD, .va (intsD p), .va (intsD q)] ∧ Q (.va (optR (btwR r' k k' (sideF true sa) (sideF false sb))))
theorem mo_between : MoF fs_between := fun as Q Q' k ⟨r, p, q, r', k0, k1, s, s', p2, q2, sa, sb, ca, cb, h1, h2, h3, h4, h5, h6, h7, h8, h9⟩ => ⟨r, p, q, r', k0, k1, s, s', p2, q2, sa, sb, ca, cb, h1, h2, h3, h4, h5, h6, h7, h8, k _ h9⟩
theorem opt3 (A B : Option Rw) (ms : List Rw) : optR A :: (ms.map Rw.toD ++ [optR B]) = (A :: (ms.map some ++ [B])).map optR := by
  rw [List.map_cons, List.map_append, opt_map]; rfl
theorem fm3 (A B : Option Rw) (ms : List Rw) : (A :: (ms.map some ++ [B])).filterMap id = A.toList ++ (ms ++ B.toList) := by
  cases A with
  | none => simpa using fm_rows ms B
  | some r => simp only [List.filterMap_cons, id, fm_rows]; rfl
/-- how great what is between is -/
theorem btw_facts {r : Rw} {p q : List Int} {r' : Rw} {k k' : List Int} {s s' : Rw} {p2 q2 : List Int} {sa sb : List (Rw × List Int × Nat)} {ca cb : Fin 26} (x : PX r p q r' k k' s s' p2 q2) (wa : Way s p2 0 sa ca) (wb : Way s' q2 0 sb cb) (hp : SmB p) (hq : SmB q) (hz : r.nodes ≤ 30) (hd : r.dep ≤ 8) :
    (SmB k ∧ SmB p2 ∧ SmB k' ∧ SmB q2) ∧ (midR r' k k').length ≤ 8000 ∧ Rw.nodesL ((sideF true sa).toList ++ (midR r' k k' ++ (sideF false sb).toList)) ≤ 99999 ∧ Rw.depL ((sideF true sa).toList ++ (midR r' k k' ++ (sideF false sb).toList)) ≤ 16 ∧ ∀ t, btwR r' k k' (sideF true sa) (sideF false sb) = some t → t.dep ≤ 30 ∧ t.nodes ≤ 100000 := by
  obtain ⟨pre, e1, e2, _⟩ := x.prt 0
  obtain ⟨st, st', ne, hn, hdp, _⟩ := x.facts
  have hp' := SmB.of_app (by rw [← e1]; exact hp : SmB (pre ++ (k ++ p2)))
  have hq' := SmB.of_app (by rw [← e2]; exact hq : SmB (pre ++ (k' ++ q2)))
  obtain ⟨a1, a2⟩ := SmB.of_app hp'.2
  obtain ⟨b1, b2⟩ := SmB.of_app hq'.2
  have m := mid_facts st st' a1 b1
  have ml := Rw.len_le (midR r' k k')
  have h1 := st.dep
  have h2 := st'.dep
  have h3 := st.nodes
  have h4 := st'.nodes
  have la := Way.len wa
  have lb := Way.len wb
  have A : Rw.depL (sideF true sa).toList ≤ 16 ∧ Rw.nodesL (sideF true sa).toList ≤ 7 * 3841 := by
    rw [toList_dep, toList_nodes]
    cases h : sideF true sa with
    | none => exact ⟨Nat.zero_le _, Nat.zero_le _⟩
    | some t =>
      have := side_factsB true wa 3841 a2 (by omega) t h
      have hm : sa.length * 3841 ≤ 7 * 3841 := Nat.mul_le_mul_right _ (by omega)
      exact ⟨by show t.dep ≤ 16; omega, by show t.nodes ≤ _; omega⟩
  have B : Rw.depL (sideF false sb).toList ≤ 16 ∧ Rw.nodesL (sideF false sb).toList ≤ 7 * 3841 := by
    rw [toList_dep, toList_nodes]
    cases h : sideF false sb with
    | none => exact ⟨Nat.zero_le _, Nat.zero_le _⟩
    | some t =>
      have := side_factsB false wb 3841 b2 (by omega) t h
      have hm : sb.length * 3841 ≤ 7 * 3841 := Nat.mul_le_mul_right _ (by omega)
      exact ⟨by show t.dep ≤ 16; omega, by show t.nodes ≤ _; omega⟩
  have n : Rw.nodesL ((sideF true sa).toList ++ (midR r' k k' ++ (sideF false sb).toList)) ≤ 99999 := by rw [Rw.nodesL_app, Rw.nodesL_app]; omega
  have d : Rw.depL ((sideF true sa).toList ++ (midR r' k k' ++ (sideF false sb).toList)) ≤ 16 := by rw [Rw.depL_app, Rw.depL_app]; omega
  refine ⟨⟨a1, a2, b1, b2⟩, by omega, n, d, fun t h => ?_⟩
  have := laidR_facts _ h
  omega
theorem key_cons {r s : Rw} {k : List Int} (st : Step r k s) : ∃ a b, k = a :: b := by cases st <;> exact ⟨_, _, rfl⟩
section
variable {P : Program} {w : World} {K : PySem.W.Frag} {mg : Str → Option Value} {base : Heap}
theorem ok_between (T : Top K mg base) : FnG P w K mg base CX0 (7) T.f_between T.d_between ["row", "one", "other"] (PSp K 3 (fs_between)) := by
  refine fn_data T.F_between sc_between (fun cdv A outer s H E hr => (evb_cons (evs_asg (evr_call (ok_parting T) mo_parting (hr.mono (by omega)) T.C_parting.hm T.C_parting.hk T.C_parting.hb (eva_cons (ev_name 0) (eva_cons (ev_name 1) (eva_cons (ev_name 2) eva_nil)))).m (evg_tup (n := 4) rfl (evgs_cons (evg_name 3 sc_between.nd) (evgs_cons (evg_name 4 sc_between.nd) (evgs_cons (evg_name 5 sc_between.nd) (evgs_cons (evg_name 6 sc_between.nd) evgs_nil))))))
    (evb_cons (evs_set 7 (evr_op od_add (ev_nameS 6) (evr_blt cd_len T.b_len (by decide +kernel) (evl_cons (ev_nameS 4) evl_nil)).cl) sc_between.nd)
    (evb_one (evs_ret (evr_call (ok_laid_of T) mo_laid_of (hr.mono (by omega)) T.C_laid_of.hm T.C_laid_of.hk T.C_laid_of.hb (eva_cons (ev_lst (evl_cons (evr_call (ok_behind T) mo_behind (hr.mono (by omega)) T.C_behind.hm T.C_behind.hk T.C_behind.hb (eva_cons (evr_call (ok_part_at T) mo_part_at (hr.mono (by omega)) T.C_part_at.hm T.C_part_at.hk T.C_part_at.hb (eva_cons (ev_name 3) (eva_cons (ev_name 4) eva_nil))).cl (eva_cons (evr_slice (ev_nameS 1) (evo_some (ev_nameS 7)) evo_none).cl eva_nil))).cl (evl_star (evr_call (ok__parts_between T) mo__parts_between (hr.mono (by omega)) T.C__parts_between.hm T.C__parts_between.hk T.C__parts_between.hb (eva_cons (ev_name 3) (eva_cons (evr_ixC 0 (ev_nameS 4)).cl (eva_cons (evr_ixC 0 (ev_nameS 5)).cl eva_nil)))).cl (evl_cons (evr_call (ok_ahead T) mo_ahead (hr.mono (by omega)) T.C_ahead.hm T.C_ahead.hk T.C_ahead.hb (eva_cons (evr_call (ok_part_at T) mo_part_at (hr.mono (by omega)) T.C_part_at.hm T.C_part_at.hk T.C_part_at.hb (eva_cons (ev_name 3) (eva_cons (ev_name 5) eva_nil))).cl (eva_cons (evr_slice (ev_nameS 2) (evo_some (ev_nameS 7)) evo_none).cl eva_nil))).cl evl_nil)))).cl eva_nil))))))) (fun as Q hn hq => ?_)
  obtain ⟨r, p, q, r', k, k', s, s', p2, q2, sa, sb, ca, cb, x, wa, wb, ⟨ap, aq⟩, ⟨sp, sq⟩, hz, hd, rfl, hQ⟩ := hq
  obtain ⟨⟨sk, sp2, sk', sq2⟩, hl, hN, hD, _⟩ := btw_facts x wa wb sp sq hz hd
  obtain ⟨pre, e1, e2, prt⟩ := x.prt 0
  obtain ⟨st, st', ne, hn, hdp, _⟩ := x.facts
  have h3 := st.nodes
  have h4 := st'.nodes
  have h1 := st.dep
  have h2 := st'.dep
  have hll : k'.length = k.length := by rw [st.len, st'.len]
  obtain ⟨a, b, rfl⟩ := key_cons st
  obtain ⟨a', b', rfl⟩ := key_cons st'
  have c1 : cutD (p.map PyData.int) (some (((0 + pre.length : Nat) : Int) + (((a :: b).map PyData.int).length : Nat))) none = p2.map PyData.int := by
    rw [List.length_map, Nat.zero_add, ← Int.natCast_add, cutD_map, cut_from, e1, ← List.append_assoc, ← List.length_append, List.drop_left]
  have c2 : cutD (q.map PyData.int) (some (((0 + pre.length : Nat) : Int) + (((a :: b).map PyData.int).length : Nat))) none = q2.map PyData.int := by
    rw [List.length_map, ← hll, Nat.zero_add, ← Int.natCast_add, cutD_map, cut_from, e2, ← List.append_assoc, ← List.length_append, List.drop_left]
  refine ⟨rfl, r, p, q, _, ap.ad, aq.ad, prt, by omega, rfl, ?_⟩
  refine ⟨rfl, rfl, rfl, r', s, a :: b, st, by omega, rfl, rfl, s, p2, sa, ca, wa, sp2, by omega, by omega, congrArg (fun x => [AV.va s.toD, AV.va (.tuple x)]) c1, ?_⟩
  refine ⟨rfl, r', s, s', a, a', b, b', st, st', ne, sk, sk', by omega, rfl, ?_⟩
  refine ⟨rfl, r', s', a' :: b', st', by omega, rfl, rfl, s', q2, sb, cb, wb, sq2, by omega, by omega, congrArg (fun x => [AV.va s'.toD, AV.va (.tuple x)]) c2, ?_⟩
  refine ⟨by simp only [List.length_append, List.length_cons, List.length_nil, List.length_map]; rw [sizeLine_eq]; omega, rfl, sideF true sa :: ((midR r' (a :: b) (a' :: b')).map some ++ [sideF false sb]), by rw [← opt3], by simp; omega, by rw [fm3]; omega, ?_⟩
  rw [fm3]
  exact hQ
end
end K17

set_option Elab.async false
set_option linter.all false
set_option maxRecDepth 100000
set_option maxHeartbeats 400000
namespace K17
open PySem PySem.Spec PyProof.Rows L2 DL
variable [Tb]
local macro_rules | `(tactic| walk_at "rw") => `(tactic| simp only [d01, d0m, dm0, d10, Rw.toD, rdIn, wds, flatD, List.all_cons, List.all_nil, dw, Bool.true_or, Bool.false_or, Bool.or_false, Bool.or_true, Bool.true_and, Bool.and_true, Bool.false_and, Bool.and_false, Bool.not_true, Bool.not_false, decide_true, decide_false, true_and, and_true, if_true, if_false, Bool.false_eq_true, reduceIte, Nat.zero_add, Nat.reduceAdd, ite_self, wJR, wJL, wJM, wRJ, wRL, wRM, wLJ, wLR, wLM, wMJ, wMR, wML])
local macro_rules | `(tactic| walk_at "st") => `(tactic| simp only [wBo, w2, rdEq2, wNameS, wName, wC, wPart, startD, List.map_cons, List.map_nil, List.cons_append, List.nil_append, getS, AV.sv, rd1, List.length_cons, List.length_nil, List.replicate, endE, frzD, List.set, wOr, wAnd, wNot, wTru, wIs, wIf, wAndV, wOrV, wNotV, wIxC, wNeg, dat_va, dat_fr, sv_va, sv_fr, gtName, gtCons, gtNil, gtTup, wFrz, wBack, wIfS, wAugI, wPar3, wIsN, if_true, if_false, Bool.false_eq_true, Bool.not_true, Bool.not_false, decide_true, decide_false, Nat.sub_zero, Nat.succ_sub_succ_eq_sub, ite_true, ite_false, reduceIte, true_and, and_true, Nat.zero_add, Nat.reduceAdd, qisStrD_str, qisStrD_tup, qisStrD_lst, qisStrD_int, qisStrD_bl, qisStrD_non, qisStrD_dct, qisTupD_str, qisTupD_tup, qisTupD_lst, qisTupD_int, qisTupD_bl, qisTupD_non, qisTupD_dct, qisLstD_str, qisLstD_tup, qisLstD_lst, qisLstD_int, qisLstD_bl, qisLstD_non, qisLstD_dct, qisDctD_str, qisDctD_tup, qisDctD_lst, qisDctD_int, qisDctD_bl, qisDctD_non, qisDctD_dct, qisBooD_str, qisBooD_tup, qisBooD_lst, qisBooD_int, qisBooD_bl, qisBooD_non, qisBooD_dct, qisIntD_str, qisIntD_tup, qisIntD_lst, qisIntD_int, qisIntD_bl, qisIntD_non, qisIntD_dct, qAddI, qAddS, qAddT, qAddL, qInt, qSlT, qSlL, qSlS, qEqI, qEqS, qEqB, qEqN, qEqT, qEqL, qIxT0, qIxT1, qIxT2, qIxL0, qIxL1, qLenT, qLenL, qLenS, qTupT, qTupL, qLstT, qLstL, qIt, qItL, qIntI, qBl, qTrT, qTrL, qTrI, qTrN, qNoN, qNoT, qNoL, qNoI, qNoS])
local macro_rules | `(tactic| walk_at "run") => `(tactic| ((try walk_at "rw"); (try walk_at "st"); (try walk_at "rw")))
local macro_rules | `(tactic| walk_at "dl") => `(tactic| simp only [wBo, w2, rdEq2, dEq, wNameS, wName, wC, startD, List.map_cons, List.map_nil, List.cons_append, List.nil_append, getS, AV.sv, rd1, List.length_cons, List.length_nil, List.replicate, endE, frzD, wBack, List.set, wOr, wAnd, wNot, wTru, wIs, wIf, wAndV, wOrV, wNotV, wIxC, ixC, nthD, dLen, dTuple, dList, dat_va, dat_fr, sv_va, sv_fr, gtName, gtCons, gtNil, gtTup, truD, wFrz, wIfS, if_true, if_false, Bool.false_eq_true, isStrD, isTupD, isLstD, isBooD, isIntD, isDctD, Bool.not_true, Bool.not_false, decide_true, decide_false, Nat.sub_zero, Nat.succ_sub_succ_eq_sub, ite_true, ite_false, reduceIte, true_and, and_true])

def lvD (x : Rw × List Int × Nat) : PyData := .tuple [x.1.toD, intsD x.2.1]
def fs__law_levels : FSp := fun as Q => ∃ (r : Rw) (p : List Int) (ss : List (Rw × List Int × Nat)) (c : Fin 26), Way r p 0 ss c ∧ r.nodes ≤ 1000 ∧ as = [.va r.toD, .va (intsD p)] ∧ Q (.fr (ss.map lvD))
theorem mo__law_levels : MoF fs__law_levels := fun as Q Q' k ⟨r, s, a, b, h1, h2, h3, h4⟩ => ⟨r, s, a, b, h1, h2, h3, k _ h4⟩
section
variable {P : Program} {w : World} {K : PySem.W.Frag} {mg : Str → Option Value} {base : Heap}
theorem ok__law_levels (T : Top K mg base) : FnG P w K mg base CX0 (2) T.f__law_levels T.d__law_levels ["_law_row", "_law_place"] (PSp K 2 (fs__law_levels)) := by
  refine fn_data T.F__law_levels sc__law_levels (fun cdv A outer s H E hr => (evb_cons (evs_set 2 (ev_lst evl_nil) sc__law_levels.nd)
    (evb_cons (evs_while (evt_not (evt_tru (evr_is "str" "str" kit_str (ev_nameS 0).bo T.b_isinstance T.b_str boot_isinstance (by decide +kernel)).cl)) (evb_cons (evs_asg (evr_call (ok__law_copy T) mo__law_copy (hr.mono (by omega)) T.C__law_copy.hm T.C__law_copy.hk T.C__law_copy.hb (eva_cons (ev_name 0) (eva_cons (ev_name 1) eva_nil))).m (evg_tup (n := 2) rfl (evgs_cons (evg_name 3 sc__law_levels.nd) (evgs_cons (evg_name 4 sc__law_levels.nd) evgs_nil))))
     (evb_cons (evs_append 2 (ev_tup (evl_cons (ev_name 0) (evl_cons (evr_slice (ev_nameS 1) evo_none (evo_some (ev_nameS 4))).cl evl_nil))))
     (evb_one (evs_par 0 1 (ev_name 3).rv (evr_slice (ev_nameS 1) (evo_some (ev_nameS 4)) evo_none) rfl sc__law_levels.nd)))))
    (evb_one (evs_retO 2))))) (fun as Q hn hq => ?_)
  obtain ⟨r, p, ss, c, hw, hz, rfl, q⟩ := hq
  have hd := dep_nodes r
  refine ⟨Nat.zero_le _, fun m sd => ∃ (r' : Rw) (n : Nat) (rest : List Int) (done todo : List (Rw × List Int × Nat)) (y z : SV), sd = [.va r'.toD, .va (intsD rest), .ow (done.map lvD), y, z] ∧ Way r' rest n todo c ∧ done ++ todo = ss ∧ r'.dep = m ∧ done.length + m ≤ 100000 ∧ r'.nodes ≤ 100000,
    ⟨_, r, 0, p, [], ss, .un, .un, rfl, hw, rfl, rfl, by simp only [List.length_nil]; omega, by omega⟩, ?_⟩
  rintro m sd ⟨r', n, rest, done, todo, y, z, rfl, w, h2, h3, h4, h5⟩
  cases w with
  | «let» c n =>
    simp only [List.append_nil] at h2
    subst h2
    exact q
  | @step _ s key p' _ ss' _ hs t =>
    have hns : isStrD r'.toD = false := Rw.notStr (by cases hs <;> rfl)
    have hl := hs.len
    have hdp := hs.dep
    have hno := hs.nodes
    simp only [wNot, wTru, wIs, wNameS, getS, dat_va, hns, qBl, Bool.not_false, if_true]
    refine ⟨rfl, r', s, key, p', hs, rfl, rfl, ?_⟩
    refine ⟨rfl, ?_⟩
    dsimp only
    show onOw 2 _ _
    rw [onOw_ow rfl]
    simp only [intsD]
    walk_at "st"
    rw [cut_preI, cut_postI]
    refine ⟨sl2, by rw [List.length_map, sizeLine_eq]; omega, s.dep, by omega, s, _, p', done ++ [(r', key, n)], ss', .va s.toD, .va (.int key.length), ?_, t, by rw [List.append_assoc]; exact h2, rfl, by rw [List.length_append, List.length_singleton]; omega, by omega⟩
    rw [List.map_append]
    rfl
end
end K17

set_option Elab.async false
set_option linter.all false
set_option maxRecDepth 100000
set_option maxHeartbeats 400000
namespace K17
open PySem PySem.Spec PyProof.Rows L2 DL
variable [Tb]
local macro_rules | `(tactic| walk_at "rw") => `(tactic| simp only [d01, d0m, dm0, d10, Rw.toD, rdIn, wds, flatD, List.all_cons, List.all_nil, dw, Bool.true_or, Bool.false_or, Bool.or_false, Bool.or_true, Bool.true_and, Bool.and_true, Bool.false_and, Bool.and_false, Bool.not_true, Bool.not_false, decide_true, decide_false, true_and, and_true, if_true, if_false, Bool.false_eq_true, reduceIte, Nat.zero_add, Nat.reduceAdd, ite_self, wJR, wJL, wJM, wRJ, wRL, wRM, wLJ, wLR, wLM, wMJ, wMR, wML])
local macro_rules | `(tactic| walk_at "st") => `(tactic| simp only [wBo, w2, rdEq2, wNameS, wName, wC, wPart, startD, List.map_cons, List.map_nil, List.cons_append, List.nil_append, getS, AV.sv, rd1, List.length_cons, List.length_nil, List.replicate, endE, frzD, List.set, wOr, wAnd, wNot, wTru, wIs, wIf, wAndV, wOrV, wNotV, wIxC, wNeg, dat_va, dat_fr, sv_va, sv_fr, gtName, gtCons, gtNil, gtTup, wFrz, wBack, wIfS, wAugI, wPar3, wIsN, if_true, if_false, Bool.false_eq_true, Bool.not_true, Bool.not_false, decide_true, decide_false, Nat.sub_zero, Nat.succ_sub_succ_eq_sub, ite_true, ite_false, reduceIte, true_and, and_true, Nat.zero_add, Nat.reduceAdd, qisStrD_str, qisStrD_tup, qisStrD_lst, qisStrD_int, qisStrD_bl, qisStrD_non, qisStrD_dct, qisTupD_str, qisTupD_tup, qisTupD_lst, qisTupD_int, qisTupD_bl, qisTupD_non, qisTupD_dct, qisLstD_str, qisLstD_tup, qisLstD_lst, qisLstD_int, qisLstD_bl, qisLstD_non, qisLstD_dct, qisDctD_str, qisDctD_tup, qisDctD_lst, qisDctD_int, qisDctD_bl, qisDctD_non, qisDctD_dct, qisBooD_str, qisBooD_tup, qisBooD_lst, qisBooD_int, qisBooD_bl, qisBooD_non, qisBooD_dct, qisIntD_str, qisIntD_tup, qisIntD_lst, qisIntD_int, qisIntD_bl, qisIntD_non, qisIntD_dct, qAddI, qAddS, qAddT, qAddL, qInt, qSlT, qSlL, qSlS, qEqI, qEqS, qEqB, qEqN, qEqT, qEqL, qIxT0, qIxT1, qIxT2, qIxL0, qIxL1, qLenT, qLenL, qLenS, qTupT, qTupL, qLstT, qLstL, qIt, qItL, qIntI, qBl, qTrT, qTrL, qTrI, qTrN, qNoN, qNoT, qNoL, qNoI, qNoS])
local macro_rules | `(tactic| walk_at "run") => `(tactic| ((try walk_at "rw"); (try walk_at "st"); (try walk_at "rw")))
local macro_rules | `(tactic| walk_at "dl") => `(tactic| simp only [wBo, w2, rdEq2, dEq, wNameS, wName, wC, startD, List.map_cons, List.map_nil, List.cons_append, List.nil_append, getS, AV.sv, rd1, List.length_cons, List.length_nil, List.replicate, endE, frzD, wBack, List.set, wOr, wAnd, wNot, wTru, wIs, wIf, wAndV, wOrV, wNotV, wIxC, ixC, nthD, dLen, dTuple, dList, dat_va, dat_fr, sv_va, sv_fr, gtName, gtCons, gtNil, gtTup, truD, wFrz, wIfS, if_true, if_false, Bool.false_eq_true, isStrD, isTupD, isLstD, isBooD, isIntD, isDctD, Bool.not_true, Bool.not_false, decide_true, decide_false, Nat.sub_zero, Nat.succ_sub_succ_eq_sub, ite_true, ite_false, reduceIte, true_and, and_true])

theorem isNon_cnt (o : Option Nat) : isNon (cntD o) = o.isNone := by cases o <;> rfl
theorem flat_cnt (os : List (Option Nat)) : (os.map cntD).all flatD = true := by
  rw [List.all_map, List.all_eq_true]
  intro o _
  cases o <;> rfl
theorem any_cnt (os : List (Option Nat)) : (os.map cntD).any (fun y => y.eqv .none) = os.any Option.isNone := by
  rw [List.any_map]
  congr 1
  funext o
  cases o with
  | none => show PyData.eqv .none .none = true; simp only [PyData.eqv]
  | some n => show PyData.eqv (.int (n : Int)) .none = false; simp only [PyData.eqv]
theorem osum_any : ∀ os : List (Option Nat), (os.any Option.isNone = true → osum os = none) ∧ (os.any Option.isNone = false → ∃ (ns : List Int) (m : Nat), os.map cntD = ns.map PyData.int ∧ osum os = some m ∧ ns.sum = (m : Int))
  | [] => ⟨fun h => (by cases h), fun _ => ⟨[], 0, rfl, rfl, rfl⟩⟩
  | none :: os => ⟨fun _ => rfl, fun h => by cases h⟩
  | some a :: os => by
    obtain ⟨h1, h2⟩ := osum_any os
    refine ⟨fun h => ?_, fun h => ?_⟩
    · simp only [osum]
      rw [h1 (by simpa using h)]
      rfl
    · obtain ⟨ns, m, e1, e2, e3⟩ := h2 (by simpa using h)
      refine ⟨(a : Int) :: ns, a + m, by rw [List.map_cons, e1]; rfl, by simp only [osum]; rw [e2]; rfl, ?_⟩
      rw [List.sum_cons, e3]
      omega
theorem added_go {os : List (Option Nat)} {Q : RV → Prop} (q : Q (.va (cntD (osum os)))) : if (os.map cntD).any (fun y => y.eqv .none) = true then Q (.va .none) else dSum (.list (os.map cntD)) Q := by
  rw [any_cnt]
  obtain ⟨h1, h2⟩ := osum_any os
  cases h : os.any Option.isNone with
  | true =>
    rw [h1 h] at q
    exact q
  | false =>
    obtain ⟨ns, m, e1, e2, e3⟩ := h2 h
    rw [e2] at q
    rw [if_neg Bool.false_ne_true, e1]
    refine ⟨ns, rfl, ?_⟩
    rw [e3]
    exact q
def fs__law_many (n : Nat) : FSp := fun as Q => ∃ r : Rw, r.dep < n ∧ r.nodes ≤ 1000000 ∧ as = [.va r.toD] ∧ Q (.va (cntD r.cnt))
theorem mo__law_many (n : Nat) : MoF (fs__law_many n) := fun as Q Q' k ⟨r, h1, h2, h3, h4⟩ => ⟨r, h1, h2, h3, k _ h4⟩
theorem no__law_many (as : List AV) (Q : RV → Prop) (h : fs__law_many 0 as Q) : False := by
  obtain ⟨_, z, _⟩ := h
  exact Nat.not_lt_zero _ z
section
variable {P : Program} {w : World} {K : PySem.W.Frag} {mg : Str → Option Value} {base : Heap}
theorem ok__law_many (T : Top K mg base) : ∀ n : Nat, FnG P w K mg base CX0 (n + 1) T.f__law_many T.d__law_many ["_law_row"] (PSp K 1 (fs__law_many n))
  | 0 => (FnG.no.mono (Nat.zero_le _)).imp fun vs H Q E ⟨S, Oc, as, h1, h2, h3, h4, h5, h6⟩ => (no__law_many as _ h6).elim
  | n + 1 => by
    have G := ok__law_many T n
    refine FnG.mono (j := (n + 1) + 1) (fn_data T.F__law_many sc__law_many (fun cdv A outer s H E hr => (evb_cons (evs_ifS (evt_tru (evr_is "str" "str" kit_str (ev_nameS 0).bo T.b_isinstance T.b_str boot_isinstance (by decide +kernel)).cl) (evb_one (evs_ret (ev_int).rv)) evb_nil)
    (evb_cons (evs_ifS (evt_cmp (od_ne2 hr.rm.units) (evr_ixC 0 (ev_nameS 0)).cl ev_str) (evb_one (evs_ret (ev_non).rv)) evb_nil)
    (evb_cons (evs_setLC 1 (evc_lc (own := [("_law_part", 2)]) (evr_ixC 1 (ev_nameS 0)).cl (blkOk_by (N := ["_law_row", "_law_some", "_law_part"]) (sc := defScope s__law_many) (by decide +kernel)) (fun _ _ _ _ _ => (evg_name 2 sc__law_many.nd)) (fun _ _ _ _ _ => evi_nil) (fun _ _ _ _ _ => (evr_call G (mo__law_many n) (hr.mono (by omega)) T.C__law_many.hm T.C__law_many.hk T.C__law_many.hb (eva_cons (ev_name 2) eva_nil)))) rfl sc__law_many.nd)
    (evb_frz 1 (evb_one (evs_ret (evr_if (evt_cmp (od_in hr.rm.units) ev_non (ev_nameS 1) (by with_unfolding_all rfl)) (ev_non).rv (evr_blt (cd_sum rfl) T.b_sum (by decide +kernel) (evl_cons (ev_nameS 1) evl_nil)))))))))) (fun as Q hn hq => ?_)) (by omega)
    obtain ⟨r, hd, hz, rfl, q⟩ := hq
    have hno := r.nodes_eq
    have hl := Rw.len_le r.parts
    have kid : ∀ s ∈ r.parts, ∀ A : RV → Prop, A (.va (cntD s.cnt)) → fs__law_many n [.va s.toD] A := fun s ms A hA => by
      have h1 := r.dep_parts s ms
      have h2 := Rw.nodes_mem ms
      exact ⟨s, by omega, by omega, rfl, hA⟩
    cases r with
    | «let» c =>
      exact q
    | right r =>
      walk_at "rw"
      walk_at "st"
      walk_at "rw"
      exact q
    | left r =>
      walk_at "rw"
      walk_at "st"
      walk_at "rw"
      exact q
    | mix r =>
      walk_at "rw"
      walk_at "st"
      walk_at "rw"
      exact q
    | join rs =>
      simp only [Rw.parts] at hl hno kid
      simp only [Rw.cnt] at q
      rw [Rw.cntL_eq] at q
      walk_at "rw"
      walk_at "st"
      walk_at "rw"
      rw [Rw.toDs_eq]
      refine ⟨⟨rfl, by rw [List.length_map, sizeLine_eq]; omega⟩, lcW_rows Rw.toD (fun s => cntD s.cnt) rs _ (fun s ms A B hA => show fs__law_many n [.va s.toD] (fun z => A z.dat) from kid s ms (fun z => A z.dat) hA) ?_⟩
      have e : rs.map (fun s : Rw => cntD s.cnt) = (rs.map Rw.cnt).map cntD := by rw [List.map_map]; rfl
      rw [e]
      exact ⟨flat_cnt _, added_go q⟩
end
def fs__law_added : FSp := fun as Q => ∃ os : List (Option Nat), as = [.va (.list (os.map cntD))] ∧ Q (.va (cntD (osum os)))
theorem mo__law_added : MoF fs__law_added := fun as Q Q' k ⟨os, h1, h2⟩ => ⟨os, h1, k _ h2⟩
section
variable {P : Program} {w : World} {K : PySem.W.Frag} {mg : Str → Option Value} {base : Heap}
theorem ok__law_added (T : Top K mg base) : FnG P w K mg base CX0 (1) T.f__law_added T.d__law_added ["_law_numbers"] (PSp K 1 (fs__law_added)) := by
  refine fn_data T.F__law_added sc__law_added (fun cdv A outer s H E hr => (evb_one (evs_ret (evr_if (evt_cmp (od_in hr.rm.units) ev_non (ev_nameS 0) (by with_unfolding_all rfl)) (ev_non).rv (evr_blt (cd_sum rfl) T.b_sum (by decide +kernel) (evl_cons (ev_nameS 0) evl_nil)))))) (fun as Q hn hq => ?_)
  obtain ⟨os, rfl, q⟩ := hq
  exact ⟨⟨rfl, flat_cnt _⟩, added_go q⟩
end
/-- what the law counts beyond a step -/
def bynd (s : Bool) (r u : Rw) (key : List Int) : List (Option Nat) := match r, key with
  | .join _, _ => (beyond s r key).map Rw.cnt
  | .right _, k :: _ => if s then [none] else if 0 < k then [u.cnt.map (k.toNat * ·)] else []
  | .left _, k :: _ => if s then (if 0 < k then [u.cnt.map (k.toNat * ·)] else []) else [none]
  | _, _ => [none]
theorem orep_list (a : Option Nat) (k : Nat) : osum (if 0 < (k : Int) then [a.map (((k : Int)).toNat * ·)] else []) = orep a k := by
  unfold orep
  by_cases h : k = 0
  · subst h; rfl
  · rw [if_pos (by omega), if_neg h]
    simp only [osum]
    rw [oadd_zero, Int.toNat_natCast]
theorem bynd_sum (s : Bool) {r u : Rw} {key : List Int} (st : Step r key u) : osum (bynd s r u key) = Rw.cntL (beyond s r key) := by
  cases st with
  | join k h => simp only [bynd]; rw [Rw.cntL_eq]
  | right i =>
    have e : ((i : Int)).toNat = i := Int.toNat_natCast i
    cases s
    · simp only [bynd, beyond, Bool.false_eq_true, if_false, e, Rw.cntL_rep]
      have := orep_list u.cnt i
      rw [e] at this
      exact this
    · rfl
  | left i =>
    have e : ((i : Int)).toNat = i := Int.toNat_natCast i
    cases s
    · rfl
    · simp only [bynd, beyond, if_true, e, Rw.cntL_rep]
      have := orep_list u.cnt i
      rw [e] at this
      exact this
  | mix k n h => rfl
theorem way_dep {r : Rw} {p : List Int} {n : Nat} {ss : List (Rw × List Int × Nat)} {c : Fin 26} (w : Way r p n ss c) : ∀ x ∈ ss, x.1.dep ≤ r.dep := by
  induction w with
  | «let» c n => intro x m; cases m
  | @step r u key p n ss c st w ih =>
    intro x m
    have := st.dep
    rcases List.mem_cons.mp m with rfl | m
    · exact Nat.le_refl _
    · have := ih x m; omega
def sideI (s : Bool) : Int := if s then 1 else -1
def fs__law_many_beyond : FSp := fun as Q => ∃ (s : Bool) (r : Rw) (p : List Int) (ss : List (Rw × List Int × Nat)) (c : Fin 26), Way r p 0 ss c ∧ SmB p ∧ r.nodes ≤ 60 ∧ r.dep ≤ 8 ∧ as = [.va r.toD, .va (intsD p), .va (.int (sideI s))] ∧ Q (.va (cntD (sdC s ss)))
theorem mo__law_many_beyond : MoF fs__law_many_beyond := fun as Q Q' k ⟨s0, r, s, a, b, h1, h2, h3, h4, h5, h6⟩ => ⟨s0, r, s, a, b, h1, h2, h3, h4, h5, k _ h6⟩
end K17

set_option Elab.async false
set_option linter.all false
set_option maxRecDepth 100000
set_option maxHeartbeats 400000
namespace K17
open PySem PySem.Spec PyProof.Rows L2 DL
variable [Tb]
local macro_rules | `(tactic| walk_at "rw") => `(tactic| simp only [d01, d0m, dm0, d10, Rw.toD, rdIn, wds, flatD, List.all_cons, List.all_nil, dw, Bool.true_or, Bool.false_or, Bool.or_false, Bool.or_true, Bool.true_and, Bool.and_true, Bool.false_and, Bool.and_false, Bool.not_true, Bool.not_false, decide_true, decide_false, true_and, and_true, if_true, if_false, Bool.false_eq_true, reduceIte, Nat.zero_add, Nat.reduceAdd, ite_self, wJR, wJL, wJM, wRJ, wRL, wRM, wLJ, wLR, wLM, wMJ, wMR, wML])
local macro_rules | `(tactic| walk_at "st") => `(tactic| simp only [wBo, w2, rdEq2, wNameS, wName, wC, wPart, startD, List.map_cons, List.map_nil, List.cons_append, List.nil_append, getS, AV.sv, rd1, List.length_cons, List.length_nil, List.replicate, endE, frzD, List.set, wOr, wAnd, wNot, wTru, wIs, wIf, wAndV, wOrV, wNotV, wIxC, wNeg, dat_va, dat_fr, sv_va, sv_fr, gtName, gtCons, gtNil, gtTup, wFrz, wBack, wIfS, wAugI, wPar3, wIsN, if_true, if_false, Bool.false_eq_true, Bool.not_true, Bool.not_false, decide_true, decide_false, Nat.sub_zero, Nat.succ_sub_succ_eq_sub, ite_true, ite_false, reduceIte, true_and, and_true, Nat.zero_add, Nat.reduceAdd, qisStrD_str, qisStrD_tup, qisStrD_lst, qisStrD_int, qisStrD_bl, qisStrD_non, qisStrD_dct, qisTupD_str, qisTupD_tup, qisTupD_lst, qisTupD_int, qisTupD_bl, qisTupD_non, qisTupD_dct, qisLstD_str, qisLstD_tup, qisLstD_lst, qisLstD_int, qisLstD_bl, qisLstD_non, qisLstD_dct, qisDctD_str, qisDctD_tup, qisDctD_lst, qisDctD_int, qisDctD_bl, qisDctD_non, qisDctD_dct, qisBooD_str, qisBooD_tup, qisBooD_lst, qisBooD_int, qisBooD_bl, qisBooD_non, qisBooD_dct, qisIntD_str, qisIntD_tup, qisIntD_lst, qisIntD_int, qisIntD_bl, qisIntD_non, qisIntD_dct, qAddI, qAddS, qAddT, qAddL, qInt, qSlT, qSlL, qSlS, qEqI, qEqS, qEqB, qEqN, qEqT, qEqL, qIxT0, qIxT1, qIxT2, qIxL0, qIxL1, qLenT, qLenL, qLenS, qTupT, qTupL, qLstT, qLstL, qIt, qItL, qIntI, qBl, qTrT, qTrL, qTrI, qTrN, qNoN, qNoT, qNoL, qNoI, qNoS])
local macro_rules | `(tactic| walk_at "run") => `(tactic| ((try walk_at "rw"); (try walk_at "st"); (try walk_at "rw")))
local macro_rules | `(tactic| walk_at "dl") => `(tactic| simp only [wBo, w2, rdEq2, dEq, wNameS, wName, wC, startD, List.map_cons, List.map_nil, List.cons_append, List.nil_append, getS, AV.sv, rd1, List.length_cons, List.length_nil, List.replicate, endE, frzD, wBack, List.set, wOr, wAnd, wNot, wTru, wIs, wIf, wAndV, wOrV, wNotV, wIxC, ixC, nthD, dLen, dTuple, dList, dat_va, dat_fr, sv_va, sv_fr, gtName, gtCons, gtNil, gtTup, truD, wFrz, wIfS, if_true, if_false, Bool.false_eq_true, isStrD, isTupD, isLstD, isBooD, isIntD, isDctD, Bool.not_true, Bool.not_false, decide_true, decide_false, Nat.sub_zero, Nat.succ_sub_succ_eq_sub, ite_true, ite_false, reduceIte, true_and, and_true])

section
variable {P : Program} {w : World} {K : PySem.W.Frag} {mg : Str → Option Value} {base : Heap}
theorem ok__law_many_beyond (T : Top K mg base) : FnG P w K mg base CX0 (42) T.f__law_many_beyond T.d__law_many_beyond ["_law_row", "_law_place", "_law_side"] (PSp K 3 (fs__law_many_beyond)) := by
  refine fn_data T.F__law_many_beyond sc__law_many_beyond (fun cdv A outer s H E hr => (evb_cons (evs_set 3 (ev_lst evl_nil) sc__law_many_beyond.nd)
    (evb_cons (evs_for (evr_call (ok__law_levels T) mo__law_levels (hr.mono (by omega)) T.C__law_levels.hm T.C__law_levels.hk T.C__law_levels.hb (eva_cons (ev_name 0) (eva_cons (ev_name 1) eva_nil))).m (evg_tup (n := 2) rfl (evgs_cons (evg_name 4 sc__law_many_beyond.nd) (evgs_cons (evg_name 5 sc__law_many_beyond.nd) evgs_nil))) (evb_one (evs_ifS (evw_or (evt_cmp (od_eq2 hr.rm.units) (evr_ixC 0 (ev_nameS 4)).cl ev_str) (evw_or1 (evt_cmp (od_eq2 hr.rm.units) (evr_ixC 0 (ev_nameS 4)).cl (evr_if (evt_cmp od_gt (ev_nameS 2) ev_int) (ev_str).rv (ev_str).rv).cl))).t (evb_one (evs_append 3 (ev_non).rv)) (evb_one (evs_ifS (evt_cmp (od_eq2 hr.rm.units) (evr_ixC 0 (ev_nameS 4)).cl ev_str) (evb_cons (evs_set 6 (evr_if (evt_cmp od_gt (ev_nameS 2) ev_int) (evr_slice (evr_ixC 1 (ev_nameS 4)).cl (evo_some (evr_op od_add (evr_ixC 0 (ev_nameS 5)).cl ev_int).cl) evo_none) (evr_slice (evr_ixC 1 (ev_nameS 4)).cl evo_none (evo_some (evr_ixC 0 (ev_nameS 5)).cl))) sc__law_many_beyond.nd)
       (evb_frz 6 (evb_one (evs_set 3 (evr_op od_add (ev_nameS 3) ((evc_lc (own := [("_law_part", 7)]) (ev_nameS 6) (blkOk_by (N := ["_law_row", "_law_place", "_law_side", "_law_found", "_law_here", "_law_key", "_law_some", "_law_part", "_law_one"]) (sc := defScope s__law_many_beyond) (by decide +kernel)) (fun _ _ _ _ _ => (evg_name 7 sc__law_many_beyond.nd)) (fun _ _ _ _ _ => evi_nil) (fun _ _ _ _ _ => (evr_call (ok__law_many T 40) (mo__law_many 40) (hr.mono (by omega)) T.C__law_many.hm T.C__law_many.hk T.C__law_many.hb (eva_cons (ev_name 7) eva_nil)))).rv rfl sc__law_many_beyond.nd).cl) sc__law_many_beyond.nd)))) (evb_one (evs_ifS (evt_cmp od_gt (evr_ixC 0 (ev_nameS 5)).cl ev_int) (evb_cons (evs_set 8 (evr_call (ok__law_many T 40) (mo__law_many 40) (hr.mono (by omega)) T.C__law_many.hm T.C__law_many.hk T.C__law_many.hb (eva_cons (evr_ixC 1 (ev_nameS 4)).cl eva_nil)) sc__law_many_beyond.nd)
        (evb_one (evs_append 3 (evr_if (evt_isN (ev_nameS 8).bo) (ev_non).rv (evr_op od_mul (evr_ixC 0 (ev_nameS 5)).cl (ev_nameS 8)))))) evb_nil)))))) rfl)
    (evb_frz 3 (evb_one (evs_ret (evr_callB (ok__law_added T) mo__law_added (hr.mono (by omega)) T.C__law_added.hm T.C__law_added.hk T.C__law_added.hb (eva_cons (ev_nameS 3).bo eva_nil)))))))) (fun as Q hn hq => ?_)
  obtain ⟨s, r, p, ss, c, w, hs, hz, hd8, rfl, q⟩ := hq
  obtain ⟨hlen, hst⟩ := way_steps w hs
  refine ⟨Nat.zero_le _, rfl, r, p, ss, c, w, by omega, rfl, ?_⟩
  refine forW_inv (fun ds sd => ∃ (todo : List (Rw × List Int × Nat)) (os : List (Option Nat)) (y4 y5 y6 y7 y8 : SV), ds = todo.map lvD ∧ (∀ x ∈ todo, x ∈ ss) ∧ oadd (osum os) (sdC s todo) = sdC s ss ∧ os.length + 200 * todo.length ≤ 2000 ∧ noOw y7 = true ∧ sd = [.va r.toD, .va (intsD p), .va (.int (sideI s)), .ow (os.map cntD), y4, y5, y6, y7, y8]) ?_ ?_ _ _ ⟨ss, [], _, _, _, _, _, rfl, fun x m => m, zero_oadd _, by simp only [List.length_nil]; omega, rfl, rfl⟩
  · rintro sd ⟨todo, os, y4, y5, y6, y7, y8, e, h1, h2, h3, n7, rfl⟩
    have : todo = [] := by
      have := congrArg List.length e
      simp at this
      exact List.eq_nil_of_length_eq_zero this.symm
    subst this
    simp only [sdC, oadd_zero] at h2
    refine ⟨rfl, os, rfl, ?_, ?_⟩
    · cases osum os <;> rfl
    · rw [h2]; exact q
  · rintro d ds sd k hk ⟨todo, os, y4, y5, y6, y7, y8, e, h1, h2, h3, n7, rfl⟩
    cases todo with
    | nil => cases e
    | cons x todo =>
      obtain ⟨rfl, rfl⟩ := List.cons.inj e
      obtain ⟨xr, key, n⟩ := x
      obtain ⟨u, st, sm, hn⟩ := hst _ (h1 _ List.mem_cons_self)
      have hdx := way_dep w _ (h1 _ List.mem_cons_self)
      have st : Step xr key u := st
      have sm : SmB key := sm
      have hn : xr.nodes ≤ r.nodes := hn
      have hdx : xr.dep ≤ r.dep := hdx
      have bs := bynd_sum s st
      simp only [sdC] at h2
      rw [← bs] at h2
      simp only [List.length_cons] at h3
      have nx : ∀ (L : List PyData) (c e f : SV), L = (os ++ bynd s xr u key).map cntD → (bynd s xr u key).length ≤ 200 → noOw e = true → k [.va r.toD, .va (intsD p), .va (.int (sideI s)), .ow L, .va xr.toD, .va (intsD key), c, e, f] := fun L c e f hL hl he => by
        subst hL
        exact hk _ ⟨todo, os ++ bynd s xr u key, _, _, _, _, _, rfl, fun x m => h1 x (List.mem_cons_of_mem _ m), by rw [osum_app, oadd_assoc]; exact h2, by rw [List.length_append]; omega, he, rfl⟩
      have kid : ∀ s2 : Rw, s2.dep ≤ 8 → s2.nodes ≤ 60 → ∀ A : RV → Prop, A (.va (cntD s2.cnt)) → fs__law_many 40 [.va s2.toD] A := fun s2 a b A hA => ⟨s2, by omega, by omega, rfl, hA⟩
      have lo : (os.map cntD).length = os.length := List.length_map ..
      have ls : 4000 ≤ sizeLine := by decide
      have one : ∀ (z : PyData) (o : Option Nat) (c e f : SV), bynd s xr u key = [o] → z = cntD o → noOw e = true → (os.map cntD).length + 1 ≤ sizeLine ∧ k [.va r.toD, .va (intsD p), .va (.int (sideI s)), .ow (os.map cntD ++ [z]), .va xr.toD, .va (intsD key), c, e, f] := fun z o c e f ho hz he => by
        subst hz
        refine ⟨by omega, nx _ _ _ _ ?_ (by rw [ho]; show 1 ≤ 200; decide) he⟩
        rw [ho, List.map_append]; rfl
      have ud := st.dep
      have un := st.nodes
      cases st with
      | @join rs _ i hi =>
        have lr := Rw.len_le rs
        have ei : ((i : Int)).toNat = i := Int.toNat_natCast i
        have hsz : rs.length ≤ 60 := by simp only [Rw.nodes] at hn; omega
        have kd : ∀ s2 ∈ rs, ∀ A : RV → Prop, A (.va (cntD s2.cnt)) → fs__law_many 40 [.va s2.toD] A := fun s2 ms => kid s2 (by have := Rw.dep_parts (.join rs) s2 ms; omega) (by have := Rw.nodes_mem ms; simp only [Rw.nodes] at hn; omega)
        simp only [intsD, List.map_cons, List.map_nil, lvD] at nx ⊢
        cases s
        · simp only [sideI, Bool.false_eq_true, if_false] at nx ⊢
          have eb : bynd false (.join rs) u [(i : Int)] = (rs.take i).map Rw.cnt := by simp only [bynd, beyond, Bool.false_eq_true, if_false, ei]
          simp only [Rw.toD, Rw.toDs_eq] at nx
          walk_at "run"
          rw [Rw.toDs_eq, cut_to, ← List.map_take]
          refine ⟨⟨by show (noOw y7 && true) = true; rw [n7]; rfl, by rw [List.length_map, List.length_take]; omega⟩, lcW_rows Rw.toD (fun s => cntD s.cnt) (rs.take i) _ (fun s ms A B hA => show fs__law_many 40 [.va s.toD] (fun z => A z.dat) from kd s (List.mem_of_mem_take ms) (fun z => A z.dat) hA) ⟨by rw [List.length_map, List.length_map, List.length_take]; omega, nx _ _ _ _ ?_ (by rw [eb, List.length_map, List.length_take]; omega) n7⟩⟩
          rw [eb, List.map_append, List.map_map]; first | done | rfl
        · simp only [sideI, if_true] at nx ⊢
          have eb : bynd true (.join rs) u [(i : Int)] = (rs.drop (i + 1)).map Rw.cnt := by simp only [bynd, beyond, if_true, ei]
          have e2 : ((i : Int)) + 1 = ((i + 1 : Nat) : Int) := rfl
          simp only [Rw.toD, Rw.toDs_eq] at nx
          walk_at "run"
          rw [Rw.toDs_eq, e2, cut_from, ← List.map_drop]
          refine ⟨⟨by show (noOw y7 && true) = true; rw [n7]; rfl, by rw [List.length_map, List.length_drop]; omega⟩, lcW_rows Rw.toD (fun s => cntD s.cnt) (rs.drop (i + 1)) _ (fun s ms A B hA => show fs__law_many 40 [.va s.toD] (fun z => A z.dat) from kd s (List.mem_of_mem_drop ms) (fun z => A z.dat) hA) ⟨by rw [List.length_map, List.length_map, List.length_drop]; omega, nx _ _ _ _ ?_ (by rw [eb, List.length_map, List.length_drop]; omega) n7⟩⟩
          rw [eb, List.map_append, List.map_map]; first | done | rfl
      | right i =>
        have hi := sm _ List.mem_cons_self
        simp only [intsD, List.map_cons, List.map_nil, lvD] at nx one ⊢
        cases s
        · simp only [sideI, Bool.false_eq_true, if_false] at nx one ⊢
          walk_at "run"
          refine ite3 (fun h => kid u (by omega) (by omega) _ ?_) (fun h => nx _ _ _ _ ?_ ?_ n7)
          · have h := of_decide_eq_true h
            have eb : bynd false (.right u) u [(i : Int)] = [u.cnt.map (i * ·)] := by simp only [bynd, Bool.false_eq_true, if_false, Int.toNat_natCast]; exact if_pos h
            show onOw 3 _ _
            rw [onOw_ow rfl]
            show wIf _ _ _ _ _
            refine bind_of (fun z => z = .va (cntD (u.cnt.map (i * ·)))) (fun Q1 q1 => ?_) ?_
            · rcases hc : u.cnt with _ | m
              · rw [hc] at q1
                exact q1 _ rfl
              · rw [hc] at q1
                exact ⟨.inl (.inl ⟨by show -(2 ^ 64) < (i : Int); omega, by show (i : Int) < 2 ^ 64; omega⟩), q1 _ (by show RV.va (.int ((i : Int) * (m : Int))) = .va (.int ((i * m : Nat) : Int)); rw [Int.natCast_mul])⟩
            · rintro _ rfl
              exact one _ _ _ _ _ eb rfl n7
          · have eb : bynd false (.right u) u [(i : Int)] = [] := by simp only [bynd, Bool.false_eq_true, if_false]; exact if_neg (by simpa using h)
            rw [eb, List.append_nil]
          · have eb : bynd false (.right u) u [(i : Int)] = [] := by simp only [bynd, Bool.false_eq_true, if_false]; exact if_neg (by simpa using h)
            rw [eb]; decide
        · simp only [sideI, if_true] at nx one ⊢
          walk_at "run"
          show onOw 3 _ _
          rw [onOw_ow rfl]
          exact one .none none _ _ _ rfl rfl n7
      | left i =>
        have hi := sm _ List.mem_cons_self
        simp only [intsD, List.map_cons, List.map_nil, lvD] at nx one ⊢
        cases s
        · simp only [sideI, Bool.false_eq_true, if_false] at nx one ⊢
          walk_at "run"
          show onOw 3 _ _
          rw [onOw_ow rfl]
          exact one .none none _ _ _ rfl rfl n7
        · simp only [sideI, if_true] at nx one ⊢
          walk_at "run"
          refine ite3 (fun h => kid u (by omega) (by omega) _ ?_) (fun h => nx _ _ _ _ ?_ ?_ n7)
          · have h := of_decide_eq_true h
            have eb : bynd true (.left u) u [(i : Int)] = [u.cnt.map (i * ·)] := by simp only [bynd, if_true, Int.toNat_natCast]; exact if_pos h
            show onOw 3 _ _
            rw [onOw_ow rfl]
            show wIf _ _ _ _ _
            refine bind_of (fun z => z = .va (cntD (u.cnt.map (i * ·)))) (fun Q1 q1 => ?_) ?_
            · rcases hc : u.cnt with _ | m
              · rw [hc] at q1
                exact q1 _ rfl
              · rw [hc] at q1
                exact ⟨.inl (.inl ⟨by show -(2 ^ 64) < (i : Int); omega, by show (i : Int) < 2 ^ 64; omega⟩), q1 _ (by show RV.va (.int ((i : Int) * (m : Int))) = .va (.int ((i * m : Nat) : Int)); rw [Int.natCast_mul])⟩
            · rintro _ rfl
              exact one _ _ _ _ _ eb rfl n7
          · have eb : bynd true (.left u) u [(i : Int)] = [] := by simp only [bynd, if_true]; exact if_neg (by simpa using h)
            rw [eb, List.append_nil]
          · have eb : bynd true (.left u) u [(i : Int)] = [] := by simp only [bynd, if_true]; exact if_neg (by simpa using h)
            rw [eb]; decide
      | mix i n h =>
        simp only [intsD, List.map_cons, List.map_nil, lvD] at nx one ⊢
        walk_at "run"
        show onOw 3 _ _
        rw [onOw_ow rfl]
        exact one .none none _ _ _ rfl rfl n7
end
end K17

set_option Elab.async false
set_option linter.all false
set_option maxRecDepth 100000
set_option maxHeartbeats 400000
namespace K17
open PySem PySem.Spec PyProof.Rows L2 DL
variable [Tb]
local macro_rules | `(tactic| walk_at "rw") => `(tactic| simp only [d01, d0m, dm0, d10, Rw.toD, rdIn, wds, flatD, List.all_cons, List.all_nil, dw, Bool.true_or, Bool.false_or, Bool.or_false, Bool.or_true, Bool.true_and, Bool.and_true, Bool.false_and, Bool.and_false, Bool.not_true, Bool.not_false, decide_true, decide_false, true_and, and_true, if_true, if_false, Bool.false_eq_true, reduceIte, Nat.zero_add, Nat.reduceAdd, ite_self, wJR, wJL, wJM, wRJ, wRL, wRM, wLJ, wLR, wLM, wMJ, wMR, wML])
local macro_rules | `(tactic| walk_at "st") => `(tactic| simp only [wBo, w2, rdEq2, wNameS, wName, wC, wPart, startD, List.map_cons, List.map_nil, List.cons_append, List.nil_append, getS, AV.sv, rd1, List.length_cons, List.length_nil, List.replicate, endE, frzD, List.set, wOr, wAnd, wNot, wTru, wIs, wIf, wAndV, wOrV, wNotV, wIxC, wNeg, dat_va, dat_fr, sv_va, sv_fr, gtName, gtCons, gtNil, gtTup, wFrz, wBack, wIfS, wAugI, wPar3, wIsN, if_true, if_false, Bool.false_eq_true, Bool.not_true, Bool.not_false, decide_true, decide_false, Nat.sub_zero, Nat.succ_sub_succ_eq_sub, ite_true, ite_false, reduceIte, true_and, and_true, Nat.zero_add, Nat.reduceAdd, qisStrD_str, qisStrD_tup, qisStrD_lst, qisStrD_int, qisStrD_bl, qisStrD_non, qisStrD_dct, qisTupD_str, qisTupD_tup, qisTupD_lst, qisTupD_int, qisTupD_bl, qisTupD_non, qisTupD_dct, qisLstD_str, qisLstD_tup, qisLstD_lst, qisLstD_int, qisLstD_bl, qisLstD_non, qisLstD_dct, qisDctD_str, qisDctD_tup, qisDctD_lst, qisDctD_int, qisDctD_bl, qisDctD_non, qisDctD_dct, qisBooD_str, qisBooD_tup, qisBooD_lst, qisBooD_int, qisBooD_bl, qisBooD_non, qisBooD_dct, qisIntD_str, qisIntD_tup, qisIntD_lst, qisIntD_int, qisIntD_bl, qisIntD_non, qisIntD_dct, qAddI, qAddS, qAddT, qAddL, qInt, qSlT, qSlL, qSlS, qEqI, qEqS, qEqB, qEqN, qEqT, qEqL, qIxT0, qIxT1, qIxT2, qIxL0, qIxL1, qLenT, qLenL, qLenS, qTupT, qTupL, qLstT, qLstL, qIt, qItL, qIntI, qBl, qTrT, qTrL, qTrI, qTrN, qNoN, qNoT, qNoL, qNoI, qNoS])
local macro_rules | `(tactic| walk_at "run") => `(tactic| ((try walk_at "rw"); (try walk_at "st"); (try walk_at "rw")))
local macro_rules | `(tactic| walk_at "dl") => `(tactic| simp only [wBo, w2, rdEq2, dEq, wNameS, wName, wC, startD, List.map_cons, List.map_nil, List.cons_append, List.nil_append, getS, AV.sv, rd1, List.length_cons, List.length_nil, List.replicate, endE, frzD, wBack, List.set, wOr, wAnd, wNot, wTru, wIs, wIf, wAndV, wOrV, wNotV, wIxC, ixC, nthD, dLen, dTuple, dList, dat_va, dat_fr, sv_va, sv_fr, gtName, gtCons, gtNil, gtTup, truD, wFrz, wIfS, if_true, if_false, Bool.false_eq_true, isStrD, isTupD, isLstD, isBooD, isIntD, isDctD, Bool.not_true, Bool.not_false, decide_true, decide_false, Nat.sub_zero, Nat.succ_sub_succ_eq_sub, ite_true, ite_false, reduceIte, true_and, and_true])

/-- the order of two parts or copies is no order the other way round -/
theorem key_asym {r s s' : Rw} {k k' : List Int} (st : Step r k s) (st' : Step r k' s') (h : keyB r k k' = true) : keyB r k' k = false := by
  cases st with
  | join a ha =>
    cases st' with
    | join b hb => have := key_lt_join h; exact decide_eq_false (by omega : ¬ (b : Int) < (a : Int))
  | right a =>
    cases st' with
    | right b => have := key_lt_right h; exact decide_eq_false (by omega : ¬ (b : Int) < (a : Int))
  | left a =>
    cases st' with
    | left b => have := key_lt_left h; exact decide_eq_false (by omega : ¬ (b : Int) > (a : Int))
  | mix a n ha =>
    cases st' with
    | mix b m hb =>
      have h := of_decide_eq_true h
      exact decide_eq_false (by omega)
def fs_many_between : FSp := fun as Q => ∃ (r : Rw) (p q : List Int) (r' : Rw) (k k' : List Int) (s s' : Rw) (p2 q2 : List Int) (sa sb : List (Rw × List Int × Nat)) (ca cb : Fin 26), PX r p q r' k k' s s' p2 q2 ∧ Way s p2 0 sa ca ∧ Way s' q2 0 sb cb ∧ (AdS r p ∧ AdS r q) ∧ (SmB p ∧ SmB q) ∧ r.nodes ≤ 30 ∧ r.dep ≤ 8 ∧ as = [.va r.toD, .va (intsD p), .va (intsD q)] ∧ Q (.va (cntD (btC r' k k' sa sb)))
theorem mo_many_between : MoF fs_many_between := fun as Q Q' k ⟨r, p, q, r', k0, k1, s, s', p2, q2, sa, sb, ca, cb, h1, h2, h3, h4, h5, h6, h7, h8, h9⟩ => ⟨r, p, q, r', k0, k1, s, s', p2, q2, sa, sb, ca, cb, h1, h2, h3, h4, h5, h6, h7, h8, k _ h9⟩
section
variable {P : Program} {w : World} {K : PySem.W.Frag} {mg : Str → Option Value} {base : Heap}
theorem ok_many_between (T : Top K mg base) : FnG P w K mg base CX0 (8) T.f_many_between T.d_many_between ["row", "one", "other"] (PSp K 3 (fs_many_between)) := by
  refine fn_data T.F_many_between sc_many_between (fun cdv A outer s H E hr => (evb_cons (evs_set 3 (evr_call (ok_between T) mo_between (hr.mono (by omega)) T.C_between.hm T.C_between.hk T.C_between.hb (eva_cons (ev_name 0) (eva_cons (ev_name 1) (eva_cons (ev_name 2) eva_nil)))) sc_many_between.nd)
    (evb_one (evs_ret (evr_if (evt_isN (ev_nameS 3).bo) (ev_int).rv (evr_call (ok_count T) mo_count (hr.mono (by omega)) T.C_count.hm T.C_count.hk T.C_count.hb (eva_cons (ev_name 3) eva_nil))))))) (fun as Q hn hq => ?_)
  obtain ⟨r, p, q, r', k, k', s, s', p2, q2, sa, sb, ca, cb, x, wa, wb, aa, ss, hz, hd, rfl, hQ⟩ := hq
  obtain ⟨_, _, _, _, gt⟩ := btw_facts x wa wb ss.1 ss.2 hz hd
  rw [← cnt_btw] at hQ
  refine ⟨rfl, r, p, q, r', k, k', s, s', p2, q2, sa, sb, ca, cb, x, wa, wb, aa, ss, hz, hd, rfl, ?_⟩
  rcases h : btwR r' k k' (sideF true sa) (sideF false sb) with _ | t
  · rw [h] at hQ
    exact hQ
  · rw [h] at hQ
    have g := gt t h
    have hN : isNon (optR (some t)) = false := by cases t <;> rfl
    have go : fs_count [.va t.toD] Q := ⟨t, by omega, rfl, hQ⟩
    show (if isNon (optR (some t)) = true then _ else _)
    rw [hN]
    exact ⟨rfl, go⟩
end
/-- whether two places are near -/
def fs_are_near : FSp := fun as Q => ∃ (r : Rw) (p q : List Int), AdS r p ∧ AdS r q ∧ SmB p ∧ SmB q ∧ r.nodes ≤ 30 ∧ r.dep ≤ 8 ∧ as = [.va r.toD, .va (intsD p), .va (intsD q)] ∧ ((p = q ∧ Q (.va (.bool true))) ∨
  ∃ (a b : List Int) (r' : Rw) (k k' : List Int) (s s' : Rw) (p2 q2 : List Int) (sa sb : List (Rw × List Int × Nat)) (ca cb : Fin 26), ((a = p ∧ b = q) ∨ (a = q ∧ b = p)) ∧ PX r a b r' k k' s s' p2 q2 ∧ keyB r' k k' = true ∧ Way s p2 0 sa ca ∧ Way s' q2 0 sb cb ∧ Q (.va (.bool (btC r' k k' sa sb).isSome)))
theorem mo_are_near : MoF fs_are_near := fun as Q Q' k ⟨r, p, q, h1, h2, h3, h4, h5, h6, h7, h⟩ => ⟨r, p, q, h1, h2, h3, h4, h5, h6, h7, h.imp (fun ⟨a, b⟩ => ⟨a, k _ b⟩) (fun ⟨a, b, r', k0, k1, s, s', p2, q2, sa, sb, ca, cb, g1, g2, g3, g4, g5, g6⟩ => ⟨a, b, r', k0, k1, s, s', p2, q2, sa, sb, ca, cb, g1, g2, g3, g4, g5, k _ g6⟩)⟩
section
variable {P : Program} {w : World} {K : PySem.W.Frag} {mg : Str → Option Value} {base : Heap}
theorem ok_are_near (T : Top K mg base) : FnG P w K mg base CX0 (9) T.f_are_near T.d_are_near ["row", "one", "other"] (PSp K 3 (fs_are_near)) := by
  refine fn_data T.F_are_near sc_are_near (fun cdv A outer s H E hr => (evb_cons (evs_ifS (evt_cmp (od_eq2 hr.rm.units) (ev_nameS 1).bo (ev_nameS 2).bo) (evb_one (evs_ret (ev_bl).rv)) evb_nil)
    (evb_cons (evs_asg (evr_if (evt_tru (evr_call (ok_comes_ahead T) mo_comes_ahead (hr.mono (by omega)) T.C_comes_ahead.hm T.C_comes_ahead.hk T.C_comes_ahead.hb (eva_cons (ev_name 0) (eva_cons (ev_name 1) (eva_cons (ev_name 2) eva_nil)))).cl) (ev_tup (evl_cons (ev_name 1) (evl_cons (ev_name 2) evl_nil))) (ev_tup (evl_cons (ev_name 2) (evl_cons (ev_name 1) evl_nil)))).m (evg_tup (n := 2) rfl (evgs_cons (evg_name 3 sc_are_near.nd) (evgs_cons (evg_name 4 sc_are_near.nd) evgs_nil))))
    (evb_one (evs_ret (evr_notN (evr_call (ok_many_between T) mo_many_between (hr.mono (by omega)) T.C_many_between.hm T.C_many_between.hk T.C_many_between.hb (eva_cons (ev_name 0) (eva_cons (ev_name 3) (eva_cons (ev_name 4) eva_nil)))).cl)))))) (fun as Q hn hq => ?_)
  obtain ⟨r, p, q, ap, aq, sp, sq, hz, hd, rfl, h⟩ := hq
  refine ⟨⟨ints_sh p, ints_sh q⟩, ?_⟩
  show (if PyData.eqv (intsD p) (intsD q) = true then _ else _)
  rw [ints_eqv]
  rcases h with ⟨rfl, hQ⟩ | ⟨a, b, r', k, k', s, s', p2, q2, sa, sb, ca, cb, hab, x, hk, wa, wb, hQ⟩
  · rw [decide_eq_true rfl]
    exact hQ
  · have ne : p ≠ q := by
      rcases hab with ⟨rfl, rfl⟩ | ⟨rfl, rfl⟩
      · exact x.ne
      · exact fun z => x.ne z.symm
    rw [decide_eq_false ne, if_neg Bool.false_ne_true]
    obtain ⟨st, st', _⟩ := x.facts
    dsimp only
    show wIf _ _ _ _ _
    refine bind_of (fun z => z = .va (.tuple [intsD a, intsD b])) (fun Q1 q1 => ?_) ?_
    · rcases hab with ⟨rfl, rfl⟩ | ⟨rfl, rfl⟩
      · obtain ⟨pre, e1, e2, prt⟩ := x.prt 0
        refine ⟨rfl, r, a, b, _, ap, aq, prt, by omega, rfl, ?_⟩
        show (if keyB r' k k' = true then _ else _)
        rw [hk]
        exact ⟨sl2, q1 _ rfl⟩
      · obtain ⟨pre, e1, e2, prt⟩ := x.swap.prt 0
        refine ⟨rfl, r, b, a, _, ap, aq, prt, by omega, rfl, ?_⟩
        show (if keyB r' k' k = true then _ else _)
        rw [key_asym st st' hk]
        exact ⟨sl2, q1 _ rfl⟩
    · rintro _ rfl
      have ap2 : AdS r a ∧ AdS r b ∧ SmB a ∧ SmB b := by
        rcases hab with ⟨rfl, rfl⟩ | ⟨rfl, rfl⟩
        · exact ⟨ap, aq, sp, sq⟩
        · exact ⟨aq, ap, sq, sp⟩
      refine ⟨rfl, rfl, rfl, r, a, b, r', k, k', s, s', p2, q2, sa, sb, ca, cb, x, wa, wb, ⟨ap2.1, ap2.2.1⟩, ap2.2.2, hz, hd, rfl, ?_⟩
      show Q (.va (.bool (!isNon (cntD (btC r' k k' sa sb)))))
      rw [isNon_cnt]
      have e : ∀ o : Option Nat, (!o.isNone) = o.isSome := fun o => by cases o <;> rfl
      rw [e]
      exact hQ
end
def fs__law_many_inner : FSp := fun as Q => ∃ (r : Rw) (p q : List Int) (r' : Rw) (k k' : List Int) (s s' : Rw) (p2 q2 : List Int) (sa sb : List (Rw × List Int × Nat)) (ca cb : Fin 26), PX r p q r' k k' s s' p2 q2 ∧ Way s p2 0 sa ca ∧ Way s' q2 0 sb cb ∧ (SmB p ∧ SmB q) ∧ r.nodes ≤ 30 ∧ r.dep ≤ 8 ∧ as = [.va r.toD, .va (intsD p), .va (intsD q)] ∧ Q (.va (cntD (btC r' k k' sa sb)))
theorem mo__law_many_inner : MoF fs__law_many_inner := fun as Q Q' k ⟨r, p, q, r', k0, k1, s, s', p2, q2, sa, sb, ca, cb, h1, h2, h3, h5, h6, h7, h8, h9⟩ => ⟨r, p, q, r', k0, k1, s, s', p2, q2, sa, sb, ca, cb, h1, h2, h3, h5, h6, h7, h8, k _ h9⟩
end K17

set_option Elab.async false
set_option linter.all false
set_option maxRecDepth 100000
set_option maxHeartbeats 400000
namespace K17
open PySem PySem.Spec PyProof.Rows L2 DL
variable [Tb]
local macro_rules | `(tactic| walk_at "rw") => `(tactic| simp only [d01, d0m, dm0, d10, Rw.toD, rdIn, wds, flatD, List.all_cons, List.all_nil, dw, Bool.true_or, Bool.false_or, Bool.or_false, Bool.or_true, Bool.true_and, Bool.and_true, Bool.false_and, Bool.and_false, Bool.not_true, Bool.not_false, decide_true, decide_false, true_and, and_true, if_true, if_false, Bool.false_eq_true, reduceIte, Nat.zero_add, Nat.reduceAdd, ite_self, wJR, wJL, wJM, wRJ, wRL, wRM, wLJ, wLR, wLM, wMJ, wMR, wML])
local macro_rules | `(tactic| walk_at "st") => `(tactic| simp only [wBo, w2, rdEq2, wNameS, wName, wC, wPart, startD, List.map_cons, List.map_nil, List.cons_append, List.nil_append, getS, AV.sv, rd1, List.length_cons, List.length_nil, List.replicate, endE, frzD, List.set, wOr, wAnd, wNot, wTru, wIs, wIf, wAndV, wOrV, wNotV, wIxC, wNeg, dat_va, dat_fr, sv_va, sv_fr, gtName, gtCons, gtNil, gtTup, wFrz, wBack, wIfS, wAugI, wPar3, wIsN, if_true, if_false, Bool.false_eq_true, Bool.not_true, Bool.not_false, decide_true, decide_false, Nat.sub_zero, Nat.succ_sub_succ_eq_sub, ite_true, ite_false, reduceIte, true_and, and_true, Nat.zero_add, Nat.reduceAdd, qisStrD_str, qisStrD_tup, qisStrD_lst, qisStrD_int, qisStrD_bl, qisStrD_non, qisStrD_dct, qisTupD_str, qisTupD_tup, qisTupD_lst, qisTupD_int, qisTupD_bl, qisTupD_non, qisTupD_dct, qisLstD_str, qisLstD_tup, qisLstD_lst, qisLstD_int, qisLstD_bl, qisLstD_non, qisLstD_dct, qisDctD_str, qisDctD_tup, qisDctD_lst, qisDctD_int, qisDctD_bl, qisDctD_non, qisDctD_dct, qisBooD_str, qisBooD_tup, qisBooD_lst, qisBooD_int, qisBooD_bl, qisBooD_non, qisBooD_dct, qisIntD_str, qisIntD_tup, qisIntD_lst, qisIntD_int, qisIntD_bl, qisIntD_non, qisIntD_dct, qAddI, qAddS, qAddT, qAddL, qInt, qSlT, qSlL, qSlS, qEqI, qEqS, qEqB, qEqN, qEqT, qEqL, qIxT0, qIxT1, qIxT2, qIxL0, qIxL1, qLenT, qLenL, qLenS, qTupT, qTupL, qLstT, qLstL, qIt, qItL, qIntI, qBl, qTrT, qTrL, qTrI, qTrN, qNoN, qNoT, qNoL, qNoI, qNoS])
local macro_rules | `(tactic| walk_at "run") => `(tactic| ((try walk_at "rw"); (try walk_at "st"); (try walk_at "rw")))
local macro_rules | `(tactic| walk_at "dl") => `(tactic| simp only [wBo, w2, rdEq2, dEq, wNameS, wName, wC, startD, List.map_cons, List.map_nil, List.cons_append, List.nil_append, getS, AV.sv, rd1, List.length_cons, List.length_nil, List.replicate, endE, frzD, wBack, List.set, wOr, wAnd, wNot, wTru, wIs, wIf, wAndV, wOrV, wNotV, wIxC, ixC, nthD, dLen, dTuple, dList, dat_va, dat_fr, sv_va, sv_fr, gtName, gtCons, gtNil, gtTup, truD, wFrz, wIfS, if_true, if_false, Bool.false_eq_true, isStrD, isTupD, isLstD, isBooD, isIntD, isDctD, Bool.not_true, Bool.not_false, decide_true, decide_false, Nat.sub_zero, Nat.succ_sub_succ_eq_sub, ite_true, ite_false, reduceIte, true_and, and_true])

theorem abs_swap (i j : Int) : (absI (i - j) - 1).toNat = (absI (j - i) - 1).toNat := by unfold absI; split <;> split <;> omega
theorem side_args (s' : Rw) {x y : List PyData} (h : x = y) : [AV.va s'.toD, AV.va (RV.va (.tuple x)).dat, AV.va (RV.va (.int (0 - 1))).dat] = [AV.va s'.toD, AV.va (.tuple y), AV.va (.int (sideI false))] := by rw [h, show (0 - 1 : Int) = sideI false from by decide]
theorem cut1 (i : Int) (p : List Int) : cutD (PyData.int i :: p.map PyData.int) (some ((1 : Nat) : Int)) none = p.map PyData.int := cut_from _ 1
theorem cut2 (i j : Int) (p : List Int) : cutD (PyData.int i :: PyData.int j :: p.map PyData.int) (some ((2 : Nat) : Int)) none = p.map PyData.int := cut_from _ 2
theorem btC_sum (r : Rw) (k k' : List Int) (sa sb : List (Rw × List Int × Nat)) (ms : List (Option Nat)) (h : osum ms = Rw.cntL (midR r k k')) : osum ([sdC true sa, sdC false sb] ++ ms) = btC r k k' sa sb := by
  rw [osum_app, h]
  unfold btC
  simp only [osum, oadd_zero]
  generalize sdC true sa = a
  generalize sdC false sb = b
  generalize Rw.cntL (midR r k k') = c
  ac_rfl
section
variable {P : Program} {w : World} {K : PySem.W.Frag} {mg : Str → Option Value} {base : Heap}
theorem ok__law_many_inner (T : Top K mg base) : FnG P w K mg base CX0 (46) T.f__law_many_inner T.d__law_many_inner ["_law_row", "_law_one", "_law_other"] (PSp K 3 (fs__law_many_inner)) := by
  refine fn_data T.F__law_many_inner sc__law_many_inner (fun cdv A outer s H E hr => (evb_cons (evs_while (evt_not (evt_tru (evr_is "str" "str" kit_str (ev_nameS 0).bo T.b_isinstance T.b_str boot_isinstance (by decide +kernel)).cl)) (evb_cons (evs_asg (evr_call (ok__law_copy T) mo__law_copy (hr.mono (by omega)) T.C__law_copy.hm T.C__law_copy.hk T.C__law_copy.hb (eva_cons (ev_name 0) (eva_cons (ev_name 1) eva_nil))).m (evg_tup (n := 2) rfl (evgs_cons (evg_name 3 sc__law_many_inner.nd) (evgs_cons (evg_name 4 sc__law_many_inner.nd) evgs_nil))))
     (evb_cons (evs_par 5 6 (evr_slice (ev_nameS 1) evo_none (evo_some (ev_nameS 4))) (evr_slice (ev_nameS 2) evo_none (evo_some (ev_nameS 4))) rfl sc__law_many_inner.nd)
     (evb_frz 6 (evb_frz 5 (evb_cons (evs_ifS (evt_cmp (od_ne2 hr.rm.units) (ev_nameS 5).bo (ev_nameS 6).bo) (evb_one evs_break) evb_nil)
     (evb_one (evs_par3 0 1 2 (evl_cons (ev_name 3) (evl_cons (evr_slice (ev_nameS 1) (evo_some (ev_nameS 4)) evo_none).cl (evl_cons (evr_slice (ev_nameS 2) (evo_some (ev_nameS 4)) evo_none).cl evl_nil))) rfl sc__law_many_inner.nd))))))))
    (evb_cons (evs_set 7 (ev_lst (evl_cons (evr_call (ok__law_many_beyond T) mo__law_many_beyond (hr.mono (by omega)) T.C__law_many_beyond.hm T.C__law_many_beyond.hk T.C__law_many_beyond.hb (eva_cons (ev_name 3) (eva_cons (evr_slice (ev_nameS 1) (evo_some (ev_nameS 4)) evo_none).cl (eva_cons ev_int eva_nil)))).cl evl_nil)) sc__law_many_inner.nd)
    (evb_cons (evs_append 7 (evr_call (ok__law_many_beyond T) mo__law_many_beyond (hr.mono (by omega)) T.C__law_many_beyond.hm T.C__law_many_beyond.hk T.C__law_many_beyond.hb (eva_cons (evr_ixC 0 (evr_call (ok__law_copy T) mo__law_copy (hr.mono (by omega)) T.C__law_copy.hm T.C__law_copy.hk T.C__law_copy.hb (eva_cons (ev_name 0) (eva_cons (ev_name 2) eva_nil))).cl).cl (eva_cons (evr_slice (ev_nameS 2) (evo_some (ev_nameS 4)) evo_none).cl (eva_cons (evr_op od_sub ev_int ev_int).cl eva_nil)))))
    (evb_cons (evs_ifS (evt_cmp (od_eq2 hr.rm.units) (evr_ixC 0 (ev_nameS 0)).cl ev_str) (evb_one (evs_set 7 (evr_op od_add (ev_nameS 7) ((evc_lc (own := [("_law_here", 8)]) (evr_slice (evr_ixC 1 (ev_nameS 0)).cl (evo_some (evr_op od_add (evr_ixC 0 (ev_nameS 5)).cl ev_int).cl) (evo_some (evr_ixC 0 (ev_nameS 6)).cl)).cl (blkOk_by (N := ["_law_row", "_law_one", "_law_other", "_law_part", "_law_many_here", "_law_mine", "_law_yours", "_law_found", "_law_here", "_law_count_one"]) (sc := defScope s__law_many_inner) (by decide +kernel)) (fun _ _ _ _ _ => (evg_name 8 sc__law_many_inner.nd)) (fun _ _ _ _ _ => evi_nil) (fun _ _ _ _ _ => (evr_call (ok__law_many T 40) (mo__law_many 40) (hr.mono (by omega)) T.C__law_many.hm T.C__law_many.hk T.C__law_many.hb (eva_cons (ev_name 8) eva_nil)))).rv rfl sc__law_many_inner.nd).cl) sc__law_many_inner.nd)) (evb_one (evs_ifS (evt_cmp (od_eq2 hr.rm.units) (evr_ixC 0 (ev_nameS 0)).cl ev_str) (evb_one (evs_append 7 (ev_non).rv)) (evb_one (evs_ifS (evt_cmp od_gt (evr_blt cd_abs T.b_abs (by decide +kernel) (evl_cons (evr_op od_sub (evr_ixC 0 (ev_nameS 5)).cl (evr_ixC 0 (ev_nameS 6)).cl).cl evl_nil)).cl ev_int) (evb_cons (evs_set 9 (evr_call (ok__law_many T 40) (mo__law_many 40) (hr.mono (by omega)) T.C__law_many.hm T.C__law_many.hk T.C__law_many.hb (eva_cons (evr_ixC 1 (ev_nameS 0)).cl eva_nil)) sc__law_many_inner.nd)
       (evb_one (evs_append 7 (evr_if (evt_isN (ev_nameS 9).bo) (ev_non).rv (evr_op od_mul (evr_op od_sub (evr_blt cd_abs T.b_abs (by decide +kernel) (evl_cons (evr_op od_sub (evr_ixC 0 (ev_nameS 5)).cl (evr_ixC 0 (ev_nameS 6)).cl).cl evl_nil)).cl ev_int).cl (ev_nameS 9)))))) evb_nil)))))
    (evb_frz 7 (evb_one (evs_ret (evr_callB (ok__law_added T) mo__law_added (hr.mono (by omega)) T.C__law_added.hm T.C__law_added.hk T.C__law_added.hb (eva_cons (ev_nameS 7).bo eva_nil)))))))))) (fun as Q hn hq => ?_)
  obtain ⟨r, p, q, r', k, k', s, s', p2, q2, sa, sb, ca, cb, x, wa, wb, ⟨sp, sq⟩, hz, hd, rfl, hQ⟩ := hq
  obtain ⟨⟨sk, sp2, sk', sq2⟩, hl, hN, hD, _⟩ := btw_facts x wa wb sp sq hz hd
  obtain ⟨st, st', ne, hn, hdp, _⟩ := x.facts
  have h3 := st.nodes
  have h4 := st'.nodes
  have h1 := st.dep
  have h2 := st'.dep
  refine ⟨fun m sd => ∃ (r1 : Rw) (p1 q1 : List Int) (y3 y4 y5 y6 : SV), sd = [.va r1.toD, .va (intsD p1), .va (intsD q1), y3, y4, y5, y6, .un, .un, .un] ∧ PX r1 p1 q1 r' k k' s s' p2 q2 ∧ r1.dep = m, ⟨_, r, p, q, .un, .un, .un, .un, rfl, x, rfl⟩, ?_⟩
  rintro m sd ⟨r1, p1, q1, y3, y4, y5, y6, rfl, x1, hm⟩
  cases x1 with
  | @deep _ t key p3 q3 _ _ _ _ _ _ _ hs x2 =>
    have hns : isStrD r1.toD = false := Rw.notStr (by cases hs <;> rfl)
    have hd := hs.dep
    simp only [wNot, wTru, wIs, wNameS, getS, dat_va, hns, qBl, Bool.not_false, if_true]
    refine ⟨rfl, r1, t, key, p3, hs, rfl, rfl, ?_⟩
    refine ⟨rfl, ?_⟩
    walk_at "st"
    simp only [intsD]
    walk_at "st"
    rw [cut_preI, cut_preI, cut_postI, cut_postI]
    refine ⟨⟨tup_sh key, tup_sh key⟩, ite3 (fun h => absurd h (by rw [tup_eqv]; simp)) (fun _ => ?_)⟩
    exact ⟨t.dep, by omega, t, p3, q3, _, _, _, _, rfl, x2, rfl⟩
  | here _ _ _ =>
    have hns : isStrD r'.toD = false := Rw.notStr (by cases st <;> rfl)
    have hL : r'.isL = false := by cases st <;> rfl
    have hlen : k.length = k'.length := by rw [st.len, st'.len]
    simp only [wNot, wTru, wIs, wNameS, getS, dat_va, hns, qBl, Bool.not_false, if_true]
    refine ⟨rfl, r', s, k, p2, st, rfl, rfl, ?_⟩
    walk_at "st"
    simp only [intsD]
    walk_at "st"
    rw [cut_preI, hlen, cut_preI]
    refine ⟨⟨tup_sh k, tup_sh k'⟩, ite3 (fun _ => ?_) (fun h => absurd (by rw [tup_eqv]; simp [ne]) h)⟩
    refine ⟨true, s, p2, sa, ca, wa, sp2, by omega, by omega, ?_, ?_⟩
    · show [AV.va s.toD, AV.va (.tuple (cutD ((k ++ p2).map PyData.int) (some (k'.length : Int)) none)), AV.va (.int 1)] = _
      rw [← hlen, cut_postI]
      rfl
    refine ⟨z1, ?_⟩
    show onOw 7 _ _
    rw [onOw_ow rfl]
    refine ⟨r', s', k', q2, st', rfl, ?_⟩
    refine ⟨false, s', q2, sb, cb, wb, sq2, by omega, by omega, ?_, ?_⟩
    · show [AV.va s'.toD, AV.va (.tuple (cutD ((k' ++ q2).map PyData.int) (some (k'.length : Int)) none)), AV.va (.int (0 - 1))] = _
      rw [cut_postI]
      rfl
    refine ⟨by show 1 < sizeLine; decide, ?_⟩
    have fin : ∀ (ms : List (Option Nat)), osum ms = Rw.cntL (midR r' k k') → ∀ M : List PyData, M = ms.map cntD → ∃ os : List (Option Nat), [AV.va (.list ([cntD (sdC true sa), cntD (sdC false sb)] ++ M))] = [AV.va (.list (os.map cntD))] ∧ (fun r : RV => r.noL = true ∧ Q r) (.va (cntD (osum os))) := fun ms h M hM => by
      subst hM
      refine ⟨[sdC true sa, sdC false sb] ++ ms, by rw [List.map_append]; rfl, ?_, ?_⟩
      · cases osum ([sdC true sa, sdC false sb] ++ ms) <;> rfl
      · rw [btC_sum r' k k' sa sb ms h]; exact hQ
    have kid : ∀ s2 : Rw, s2.dep ≤ 8 → s2.nodes ≤ 60 → ∀ A : RV → Prop, A (.va (cntD s2.cnt)) → fs__law_many 40 [.va s2.toD] A := fun s2 a b A hA => ⟨s2, by omega, by omega, rfl, hA⟩
    cases st with
    | @join rs _ i hi =>
      cases st' with
      | join j hj =>
        have lr := Rw.len_le rs
        have hsz : rs.length ≤ 30 := by simp only [Rw.nodes] at hn; omega
        have kd : ∀ s2 ∈ rs, ∀ A : RV → Prop, A (.va (cntD s2.cnt)) → fs__law_many 40 [.va s2.toD] A := fun s2 ms => kid s2 (by have := Rw.dep_parts (.join rs) s2 ms; omega) (by have := Rw.nodes_mem ms; simp only [Rw.nodes] at hn; omega)
        simp only [intsD, List.map_cons, List.map_nil, List.cons_append, List.nil_append]
        walk_at "run"
        rw [Rw.toDs_eq, cutD_map]
        have lc : (DL.cutD rs (some ((i : Int) + 1)) (some (j : Int))).length ≤ 30 := by
          unfold DL.cutD
          rw [List.length_take, List.length_drop]
          omega
        have ls : 4000 ≤ sizeLine := by decide
        refine ⟨⟨rfl, by rw [List.length_map]; omega⟩, lcW_rows Rw.toD (fun s => cntD s.cnt) _ _ (fun s ms A B hA => show fs__law_many 40 [.va s.toD] (fun z => A z.dat) from kd s (cutD_sub _ _ _ s ms) (fun z => A z.dat) hA) ⟨by rw [List.length_map]; omega, fin ((midR (.join rs) [(i : Int)] [(j : Int)]).map Rw.cnt) (Rw.cntL_eq _).symm _ ?_⟩⟩
        rw [List.map_map]
        rfl
    | right i =>
      cases st' with
      | right j =>
        have h1 := sk _ List.mem_cons_self
        have h2 := sk' _ List.mem_cons_self
        have n2 : i ≠ j := fun e => ne (by rw [e])
        simp only [intsD, List.map_cons, List.map_nil, List.cons_append, List.nil_append]
        walk_at "run"
        have eN : (midR (.right s) [(i : Int)] [(j : Int)]) = List.replicate (absI ((i : Int) - (j : Int)) - 1).toNat s := by simp only [midR]; rw [abs_swap]
        have aN : 0 ≤ absI ((i : Int) - (j : Int)) - 1 ∧ absI ((i : Int) - (j : Int)) - 1 ≤ 1000 := by unfold absI; split <;> omega
        refine ⟨trivial, ?_⟩
        show (if decide (1 < absI ((i : Int) - (j : Int))) = true then _ else _)
        refine ite3 (fun h => kid s (by omega) (by omega) _ ?_) (fun h => ?_)
        rotate_left
        · have h : ¬ 1 < absI ((i : Int) - (j : Int)) := by simpa using h
          have z : (absI ((i : Int) - (j : Int)) - 1).toNat = 0 := by omega
          exact fin [] (by rw [eN, Rw.cntL_rep, z]; rfl) [] rfl
        have h : 1 < absI ((i : Int) - (j : Int)) := of_decide_eq_true h
        show onOw 7 _ _
        rw [onOw_ow rfl]
        show wIf _ _ _ _ _
        generalize hN : (absI ((i : Int) - (j : Int)) - 1).toNat = N at eN
        have hN2 : absI ((i : Int) - (j : Int)) - 1 = (N : Int) := by omega
        refine bind_of (fun z => z = .va (cntD (s.cnt.map (N * ·)))) (fun Q1 q1 => ?_) ?_
        · rcases hc : s.cnt with _ | m
          · rw [hc] at q1
            exact q1 _ rfl
          · rw [hc] at q1
            exact ⟨trivial, trivial, .inl (.inl (by show -(2 ^ 64) < absI ((i : Int) - (j : Int)) - 1 ∧ absI ((i : Int) - (j : Int)) - 1 < 2 ^ 64; omega)), q1 _ (by show RV.va (.int ((absI ((i : Int) - (j : Int)) - 1) * (m : Int))) = .va (.int ((N * m : Nat) : Int)); rw [hN2, Int.natCast_mul])⟩
        · rintro _ rfl
          exact ⟨by show 2 < sizeLine; decide, fin [s.cnt.map (N * ·)] (by rw [eN, Rw.cntL_rep]; unfold orep; rw [if_neg (by omega)]; simp only [osum]; rw [oadd_zero]) _ rfl⟩
    | left i =>
      cases st' with
      | left j =>
        have h1 := sk _ List.mem_cons_self
        have h2 := sk' _ List.mem_cons_self
        have n2 : i ≠ j := fun e => ne (by rw [e])
        simp only [intsD, List.map_cons, List.map_nil, List.cons_append, List.nil_append]
        walk_at "run"
        have eN : (midR (.left s) [(i : Int)] [(j : Int)]) = List.replicate (absI ((i : Int) - (j : Int)) - 1).toNat s := by simp only [midR]; rw [abs_swap]
        have aN : 0 ≤ absI ((i : Int) - (j : Int)) - 1 ∧ absI ((i : Int) - (j : Int)) - 1 ≤ 1000 := by unfold absI; split <;> omega
        refine ⟨trivial, ?_⟩
        show (if decide (1 < absI ((i : Int) - (j : Int))) = true then _ else _)
        refine ite3 (fun h => kid s (by omega) (by omega) _ ?_) (fun h => ?_)
        rotate_left
        · have h : ¬ 1 < absI ((i : Int) - (j : Int)) := by simpa using h
          have z : (absI ((i : Int) - (j : Int)) - 1).toNat = 0 := by omega
          exact fin [] (by rw [eN, Rw.cntL_rep, z]; rfl) [] rfl
        have h : 1 < absI ((i : Int) - (j : Int)) := of_decide_eq_true h
        show onOw 7 _ _
        rw [onOw_ow rfl]
        show wIf _ _ _ _ _
        generalize hN : (absI ((i : Int) - (j : Int)) - 1).toNat = N at eN
        have hN2 : absI ((i : Int) - (j : Int)) - 1 = (N : Int) := by omega
        refine bind_of (fun z => z = .va (cntD (s.cnt.map (N * ·)))) (fun Q1 q1 => ?_) ?_
        · rcases hc : s.cnt with _ | m
          · rw [hc] at q1
            exact q1 _ rfl
          · rw [hc] at q1
            exact ⟨trivial, trivial, .inl (.inl (by show -(2 ^ 64) < absI ((i : Int) - (j : Int)) - 1 ∧ absI ((i : Int) - (j : Int)) - 1 < 2 ^ 64; omega)), q1 _ (by show RV.va (.int ((absI ((i : Int) - (j : Int)) - 1) * (m : Int))) = .va (.int ((N * m : Nat) : Int)); rw [hN2, Int.natCast_mul])⟩
        · rintro _ rfl
          exact ⟨by show 2 < sizeLine; decide, fin [s.cnt.map (N * ·)] (by rw [eN, Rw.cntL_rep]; unfold orep; rw [if_neg (by omega)]; simp only [osum]; rw [oadd_zero]) _ rfl⟩
    | @mix rs _ i n hi =>
      cases st' with
      | mix j m hj =>
        simp only [intsD, List.map_cons, List.map_nil, List.cons_append, List.nil_append]
        walk_at "run"
        show onOw 7 _ _
        rw [onOw_ow rfl]
        exact ⟨by show 2 < sizeLine; decide, fin [none] rfl _ rfl⟩
end
end K17

set_option Elab.async false
set_option linter.all false
set_option maxRecDepth 100000
set_option maxHeartbeats 400000
namespace K17
open PySem PySem.Spec PyProof.Rows L2 DL
variable [Tb]
local macro_rules | `(tactic| walk_at "rw") => `(tactic| simp only [d01, d0m, dm0, d10, Rw.toD, rdIn, wds, flatD, List.all_cons, List.all_nil, dw, Bool.true_or, Bool.false_or, Bool.or_false, Bool.or_true, Bool.true_and, Bool.and_true, Bool.false_and, Bool.and_false, Bool.not_true, Bool.not_false, decide_true, decide_false, true_and, and_true, if_true, if_false, Bool.false_eq_true, reduceIte, Nat.zero_add, Nat.reduceAdd, ite_self, wJR, wJL, wJM, wRJ, wRL, wRM, wLJ, wLR, wLM, wMJ, wMR, wML])
local macro_rules | `(tactic| walk_at "st") => `(tactic| simp only [wBo, w2, rdEq2, wNameS, wName, wC, wPart, startD, List.map_cons, List.map_nil, List.cons_append, List.nil_append, getS, AV.sv, rd1, List.length_cons, List.length_nil, List.replicate, endE, frzD, List.set, wOr, wAnd, wNot, wTru, wIs, wIf, wAndV, wOrV, wNotV, wIxC, wNeg, dat_va, dat_fr, sv_va, sv_fr, gtName, gtCons, gtNil, gtTup, wFrz, wBack, wIfS, wAugI, wPar3, wIsN, if_true, if_false, Bool.false_eq_true, Bool.not_true, Bool.not_false, decide_true, decide_false, Nat.sub_zero, Nat.succ_sub_succ_eq_sub, ite_true, ite_false, reduceIte, true_and, and_true, Nat.zero_add, Nat.reduceAdd, qisStrD_str, qisStrD_tup, qisStrD_lst, qisStrD_int, qisStrD_bl, qisStrD_non, qisStrD_dct, qisTupD_str, qisTupD_tup, qisTupD_lst, qisTupD_int, qisTupD_bl, qisTupD_non, qisTupD_dct, qisLstD_str, qisLstD_tup, qisLstD_lst, qisLstD_int, qisLstD_bl, qisLstD_non, qisLstD_dct, qisDctD_str, qisDctD_tup, qisDctD_lst, qisDctD_int, qisDctD_bl, qisDctD_non, qisDctD_dct, qisBooD_str, qisBooD_tup, qisBooD_lst, qisBooD_int, qisBooD_bl, qisBooD_non, qisBooD_dct, qisIntD_str, qisIntD_tup, qisIntD_lst, qisIntD_int, qisIntD_bl, qisIntD_non, qisIntD_dct, qAddI, qAddS, qAddT, qAddL, qInt, qSlT, qSlL, qSlS, qEqI, qEqS, qEqB, qEqN, qEqT, qEqL, qIxT0, qIxT1, qIxT2, qIxL0, qIxL1, qLenT, qLenL, qLenS, qTupT, qTupL, qLstT, qLstL, qIt, qItL, qIntI, qBl, qTrT, qTrL, qTrI, qTrN, qNoN, qNoT, qNoL, qNoI, qNoS])
local macro_rules | `(tactic| walk_at "run") => `(tactic| ((try walk_at "rw"); (try walk_at "st"); (try walk_at "rw")))
local macro_rules | `(tactic| walk_at "dl") => `(tactic| simp only [wBo, w2, rdEq2, dEq, wNameS, wName, wC, startD, List.map_cons, List.map_nil, List.cons_append, List.nil_append, getS, AV.sv, rd1, List.length_cons, List.length_nil, List.replicate, endE, frzD, wBack, List.set, wOr, wAnd, wNot, wTru, wIs, wIf, wAndV, wOrV, wNotV, wIxC, ixC, nthD, dLen, dTuple, dList, dat_va, dat_fr, sv_va, sv_fr, gtName, gtCons, gtNil, gtTup, truD, wFrz, wIfS, if_true, if_false, Bool.false_eq_true, isStrD, isTupD, isLstD, isBooD, isIntD, isDctD, Bool.not_true, Bool.not_false, decide_true, decide_false, Nat.sub_zero, Nat.succ_sub_succ_eq_sub, ite_true, ite_false, reduceIte, true_and, and_true])

theorem wNameS_at {i : Nat} {sd : SD} {d : PyData} {Q : PyData → Prop} (h : getS sd i = .va d) (q : Q d) : wNameS i sd Q := by unfold wNameS; rw [h]; exact q
theorem gt_go {i : Nat} {d : PyData} {sd : SD} {Q : SD → Prop} (h : Q (sd.set i (.va d))) : gtName i d sd Q := h
theorem good_cnt {o : Option Nat} (h : ∀ n, o = some n → n ≤ 100000) : Good (cntD o) := by
  cases o with
  | none => exact good_non
  | some n =>
    have := h n rfl
    have h2 : ((n : Int)).natAbs.log2 < 1920 := by
      rw [Int.natAbs_natCast]
      by_cases z : n = 0
      · subst z; decide
      · have := (Nat.log2_lt z (k := 17)).mpr (by have : (2 : Nat) ^ 17 = 131072 := by decide
                                                  omega)
        omega
    have hs : SeqAt.shaped (.int (n : Int)) = true := by simp [SeqAt.shaped, PyData.canLay0, PyData.depth]
    refine ⟨⟨⟨decide_eq_true h2, hs⟩, int_text_fits h2⟩, hs, sh_str ?_, by show PyData.eqv (.int (n : Int)) (.int (n : Int)) = true; simp only [PyData.eqv]; simp⟩
    unfold PyData.strOk
    rw [Array.all_eq_true_iff_forall_mem]
    intro c hc
    refine decide_eq_true (Nat.lt_of_not_le fun hge => ?_)
    exact shown_int_free' (k := c) ⟨by omega, by omega⟩ (n : Int) (Array.mem_toList_iff.mpr hc)
theorem good_bb (b c : Bool) : Good (.list [.bool b, .bool c]) := by cases b <;> cases c <;> exact good_pl (by decide +kernel) (by decide +kernel) (by decide +kernel)
/-- how many are between, at most -/
theorem btC_le {r : Rw} {p q : List Int} {r' : Rw} {k k' : List Int} {s s' : Rw} {p2 q2 : List Int} {sa sb : List (Rw × List Int × Nat)} {ca cb : Fin 26} (x : PX r p q r' k k' s s' p2 q2) (wa : Way s p2 0 sa ca) (wb : Way s' q2 0 sb cb) (hp : SmB p) (hq : SmB q) (hz : r.nodes ≤ 30) (hd : r.dep ≤ 8) : ∀ n, btC r' k k' sa sb = some n → n ≤ 100000 := by
  intro n h
  obtain ⟨_, _, _, _, gt⟩ := btw_facts x wa wb hp hq hz hd
  rw [← cnt_btw] at h
  rcases e : btwR r' k k' (sideF true sa) (sideF false sb) with _ | t
  · rw [e] at h
    cases h
    omega
  · rw [e] at h
    have := Rw.cnt_le t n h
    have := (gt t e).2
    omega
def abcR : Rw := .join [.let 0, .let 1, .let 2]
def farR : Rw := .join [.let 0, .right abcR, .left (.let 1)]
theorem range_eq (n : Nat) : rangeD 0 n = (List.range' 0 n).map (fun i : Nat => PyData.int (i : Int)) := by
  unfold rangeD
  rw [List.range_eq_range']
  exact List.map_congr_left fun i _ => by rw [Int.zero_add]
theorem Prt.px {r : Rw} {p q : List Int} {n : Nat} {o : Par} (t : Prt r p q n o) : ahdB o = true → ∃ (r' : Rw) (k k' : List Int) (s s' : Rw) (p2 q2 : List Int), PX r p q r' k k' s s' p2 q2 ∧ keyB r' k k' = true := by
  induction t with
  | «let» => intro h; cases h
  | same h t ih =>
    intro z
    obtain ⟨r', k, k', s, s', p2, q2, x, hk⟩ := ih z
    exact ⟨_, _, _, _, _, _, _, .deep h x, hk⟩
  | diff h h' ne => exact fun z => ⟨_, _, _, _, _, _, _, .here h h' ne, z⟩
/-- q is p, or behind it with fewer than j between -/
def StP (r : Rw) (p q : List Int) (j : Nat) : Prop := q = p ∨ ∃ (r1 : Rw) (k k' : List Int) (s s' : Rw) (p2 q2 : List Int), PX r p q r1 k k' s s' p2 q2 ∧ keyB r1 k k' = true ∧ ∀ (na nb : Nat) (sa sb : List (Rw × List Int × Nat)) (ca cb : Fin 26), Way s p2 na sa ca → Way s' q2 nb sb cb → ∃ b, btC r1 k k' sa sb = some b ∧ b < j
theorem StP.up {r : Rw} {p q : List Int} {j : Nat} (h : StP r p q j) : StP r p q (j + 1) := h.imp id fun ⟨r1, k, k', s, s', p2, q2, x, hk, hb⟩ => ⟨r1, k, k', s, s', p2, q2, x, hk, fun na nb sa sb ca cb wa wb => by
  obtain ⟨b, e, l⟩ := hb na nb sa sb ca cb wa wb
  exact ⟨b, e, by omega⟩⟩
theorem StP.next {r : Rw} {p q q' : List Int} {j : Nat} (h : StP r p q j) (ap : AdS r p) (aq : AdS r q) {ss : List (Rw × List Int × Nat)} {c : Fin 26} (w : Way r q 0 ss c) (hn : nbP false ss = some q') : StP r p q' (j + 1) := by
  obtain ⟨aq', _, o, prt, ho⟩ := nbF_some false w aq q' (nbP_some hn)
  obtain ⟨r2, k2, k2', s2, s2', p2, q2, x2, hk2⟩ := Prt.px prt ho
  have hm := ((x2.next w).mp hn).1
  have zero : ∀ {na nb : Nat} {sa sb : List (Rw × List Int × Nat)} {ca cb : Fin 26}, Way s2 p2 na sa ca → Way s2' q2 nb sb cb → btC r2 k2 k2' sa sb = some 0 := fun wa wb => by
    have e := (btw_next x2 hk2 w wa wb).mpr hn
    rw [← cnt_btw, e]
    rfl
  rcases h with rfl | ⟨r1, k1, k1', s1, s1', p1, q1, x1, hk1, hb⟩
  · exact .inr ⟨r2, k2, k2', s2, s2', p2, q2, x2, hk2, fun na nb sa sb ca cb wa wb => ⟨0, zero wa wb, by omega⟩⟩
  · obtain ⟨_, _, _, _, _, _, f1, f2⟩ := x1.facts
    obtain ⟨_, _, _, _, _, _, g1, g2⟩ := x2.facts
    obtain ⟨sa, ca, wa⟩ := (f1 ap).2.ad.way 0
    obtain ⟨sb, cb, wb⟩ := (f2 aq).2.ad.way 0
    obtain ⟨sd, cd, wd⟩ := (g1 aq).2.ad.way 0
    obtain ⟨se, ce, we⟩ := (g2 aq').2.ad.way 0
    obtain ⟨r3, k3, k3', s3, s3', p3, q3, x3, hk3, h3⟩ := x1.three x2 hk1 hk2 hm wa wb wd we
    obtain ⟨b, eb, lb⟩ := hb _ _ _ _ _ _ wa wb
    refine .inr ⟨r3, k3, k3', s3, s3', p3, q3, x3, hk3, fun na nb sa' sb' ca' cb' wa' wb' => ⟨b + 1, ?_, by omega⟩⟩
    rw [h3 wa' wb', eb, zero wd we]
    rfl
section
variable {P : Program} {w : World} {K : PySem.W.Frag} {mg : Str → Option Value} {base : Heap}
theorem ok_law (T : Top K mg base) : FnG P w K mg base CX0 60 T.f_law T.d_law ["_law_script"] (spLaw K) := by
  refine fn_body T.F_law sc_law (fun vs H Q E ⟨a, ns, e, _⟩ => by rw [e]; rfl) fun cdv A outer s H vs Q E hr hsp => ?_
  obtain ⟨a, ns, rfl, hS, hlen, tabs, q⟩ := hsp
  have nd := sc_law.nd
  refine ⟨_, (pss_cons (ps_set (i := 1) nd rfl (by first | exact Or.inl rfl | exact Or.inr rfl) (pe_callG (ok__law_open_cells T) (hr.mono (by omega)) (by rfl) T.C__law_open_cells.hm T.C__law_open_cells.hk T.C__law_open_cells.hb pass0 (pa_cons (pv 0) pa_nil)))
    (EvB.ps (X := (cxOf CX0 P w K mg base ["_law_script", "_law_source", "_law_lap", "_law_row", "_law_first", "_law_held", "_law_turn", "_law_other", "_law_one", "_law_late", "_law_due", "_law_place", "_law_later", "_law_far", "_law_told"] "law" (defScope s_law) T.f_law cdv A outer s H E).nox) (evb_cons (evs_forR ev_int (evg_name 2 sc_law.nd) (evb_cons (evs_set 3 (evr_call (ok__law_few T) mo__law_few (hr.mono (by omega)) T.C__law_few.hm T.C__law_few.hk T.C__law_few.hb (eva_so 1 (eva_cons (evr_op od_add ev_int (evr_call (ok__law_pick T) mo__law_pick (hr.mono (by omega)) T.C__law_pick.hm T.C__law_pick.hk T.C__law_pick.hb (eva_so 1 (eva_cons ev_int eva_nil))).cl).cl eva_nil))) sc_law.nd)
     (evb_cons (evs_par 4 5 (evr_call (ok__law_draw_address T) mo__law_draw_address (hr.mono (by omega)) T.C__law_draw_address.hm T.C__law_draw_address.hk T.C__law_draw_address.hb (eva_so 1 (eva_cons (ev_name 3) eva_nil))) (evr_blt (cd_repr (hr.mono (by omega))) T.b_repr (by decide +kernel) (evl_cons (ev_nameS 3).bo evl_nil)) rfl sc_law.nd)
     (evb_cons (evs_ifS (evw_or (evt_cmp (od_ne2 hr.rm.units) (evr_blt (cd_repr (hr.mono (by omega))) T.b_repr (by decide +kernel) (evl_cons (evr_call (ok_count T) mo_count (hr.mono (by omega)) T.C_count.hm T.C_count.hk T.C_count.hb (eva_cons (ev_name 3) eva_nil)).cl evl_nil)).cl (evr_blt (cd_repr (hr.mono (by omega))) T.b_repr (by decide +kernel) (evl_cons (evr_call (ok__law_many T 40) (mo__law_many 40) (hr.mono (by omega)) T.C__law_many.hm T.C__law_many.hk T.C__law_many.hb (eva_cons (ev_name 3) eva_nil)).cl evl_nil)).cl) (evw_or1 (evt_cmp od_isnotB (evr_call (ok_are_near T) mo_are_near (hr.mono (by omega)) T.C_are_near.hm T.C_are_near.hk T.C_are_near.hb (eva_cons (ev_name 3) (eva_cons (ev_name 4) (eva_cons (ev_name 4) eva_nil)))).cl ev_bl))).t (evb_one (evs_ret (ev_bl).rv)) evb_nil)
     (evb_cons (evs_forR ev_int (evg_name 6 sc_law.nd) (evb_cons (evs_set 7 (evr_call (ok__law_near_place T) mo__law_near_place (hr.mono (by omega)) T.C__law_near_place.hm T.C__law_near_place.hk T.C__law_near_place.hb (eva_so 1 (eva_cons (ev_name 3) (eva_cons (ev_name 4) eva_nil)))) sc_law.nd)
      (evb_cons (evs_ifS (evt_cmp (od_eq2 hr.rm.units) (ev_nameS 7).bo (ev_nameS 4).bo) (evb_one evs_continue) evb_nil)
      (evb_cons (evs_asg (evr_if (evt_tru (evr_call (ok_comes_ahead T) mo_comes_ahead (hr.mono (by omega)) T.C_comes_ahead.hm T.C_comes_ahead.hk T.C_comes_ahead.hb (eva_cons (ev_name 3) (eva_cons (ev_name 4) (eva_cons (ev_name 7) eva_nil)))).cl) (ev_tup (evl_cons (ev_name 4) (evl_cons (ev_name 7) evl_nil))) (ev_tup (evl_cons (ev_name 7) (evl_cons (ev_name 4) evl_nil)))).m (evg_tup (n := 2) rfl (evgs_cons (evg_name 8 sc_law.nd) (evgs_cons (evg_name 9 sc_law.nd) evgs_nil))))
      (evb_cons (evs_set 10 (evr_call (ok__law_many_inner T) mo__law_many_inner (hr.mono (by omega)) T.C__law_many_inner.hm T.C__law_many_inner.hk T.C__law_many_inner.hb (eva_cons (ev_name 3) (eva_cons (ev_name 8) (eva_cons (ev_name 9) eva_nil)))) sc_law.nd)
      (evb_cons (evs_ifS (evt_cmp (od_ne2 hr.rm.units) (evr_blt (cd_repr (hr.mono (by omega))) T.b_repr (by decide +kernel) (evl_cons (evr_call (ok_many_between T) mo_many_between (hr.mono (by omega)) T.C_many_between.hm T.C_many_between.hk T.C_many_between.hb (eva_cons (ev_name 3) (eva_cons (ev_name 8) (eva_cons (ev_name 9) eva_nil)))).cl evl_nil)).cl (evr_blt (cd_repr (hr.mono (by omega))) T.b_repr (by decide +kernel) (evl_cons (ev_nameS 10).bo evl_nil)).cl) (evb_one (evs_ret (ev_bl).rv)) evb_nil)
      (evb_one (evs_ifS (evt_cmp (od_ne2 hr.rm.units) (evr_blt (cd_repr (hr.mono (by omega))) T.b_repr (by decide +kernel) (evl_cons (ev_lst (evl_cons (evr_call (ok_are_near T) mo_are_near (hr.mono (by omega)) T.C_are_near.hm T.C_are_near.hk T.C_are_near.hb (eva_cons (ev_name 3) (eva_cons (ev_name 8) (eva_cons (ev_name 9) eva_nil)))).cl (evl_cons (evr_call (ok_are_near T) mo_are_near (hr.mono (by omega)) T.C_are_near.hm T.C_are_near.hk T.C_are_near.hb (eva_cons (ev_name 3) (eva_cons (ev_name 9) (eva_cons (ev_name 8) eva_nil)))).cl evl_nil))).cl evl_nil)).cl (evr_blt (cd_repr (hr.mono (by omega))) T.b_repr (by decide +kernel) (evl_cons (evr_op od_mul (ev_lst (evl_cons (evr_notN (ev_nameS 10).bo).cl evl_nil)).cl ev_int).cl evl_nil)).cl) (evb_one (evs_ret (ev_bl).rv)) evb_nil))))))) rfl T.b_range)
     (evb_cons (evs_setM 11 (evm_frz 4) sc_law.nd)
     (evb_cons (evs_forR (evr_call (ok__law_pick T) mo__law_pick (hr.mono (by omega)) T.C__law_pick.hm T.C__law_pick.hk T.C__law_pick.hb (eva_so 1 (eva_cons ev_int eva_nil))).cl (evg_name 6 sc_law.nd) (evb_cons (evs_set 12 (evr_call (ok_next_place T) mo_next_place (hr.mono (by omega)) T.C_next_place.hm T.C_next_place.hk T.C_next_place.hb (eva_cons (ev_name 3) (eva_cons (ev_name 11) eva_nil))) sc_law.nd)
      (evb_cons (evs_set 11 (evr_if (evt_notN (ev_nameS 12).bo) (ev_name 12).rv (ev_name 11).rv) sc_law.nd)
      (evb_one (evs_ifS (evw_and (evt_cmp (od_ne2 hr.rm.units) (ev_nameS 11).bo (ev_nameS 4).bo) (evw_and1 (evt_cmp od_gt (evr_call (ok_many_between T) mo_many_between (hr.mono (by omega)) T.C_many_between.hm T.C_many_between.hk T.C_many_between.hb (eva_cons (ev_name 3) (eva_cons (ev_name 4) (eva_cons (ev_name 11) eva_nil)))).cl (ev_nameS 6)))).t (evb_one (evs_ret (ev_bl).rv)) evb_nil)))) rfl T.b_range)
     (evb_one (evs_ifS (evt_cmp (od_ne2 hr.rm.units) (evr_blt (cd_repr (hr.mono (by omega))) T.b_repr (by decide +kernel) (evl_cons (ev_nameS 3).bo evl_nil)).cl (ev_nameS 5).bo) (evb_one (evs_ret (ev_bl).rv)) evb_nil)))))))) rfl T.b_range)
    (evb_cons (evs_set 13 (ev_tup (evl_cons ev_str (evl_cons (ev_tup (evl_cons ev_str (evl_cons (ev_tup (evl_cons ev_str (evl_cons (ev_tup (evl_cons ev_str (evl_cons (ev_tup (evl_cons ev_str (evl_cons ev_str (evl_cons ev_str evl_nil)))).cl evl_nil))).cl evl_nil))).cl (evl_cons (ev_tup (evl_cons ev_str (evl_cons ev_str evl_nil))).cl evl_nil)))).cl evl_nil))) sc_law.nd)
    (evb_cons (evs_set 14 (ev_lst (evl_cons (evr_call (ok_many_between T) mo_many_between (hr.mono (by omega)) T.C_many_between.hm T.C_many_between.hk T.C_many_between.hb (eva_cons (ev_name 13) (eva_cons (ev_tup (evl_cons ev_int evl_nil)).cl (eva_cons (ev_tup (evl_cons ev_int (evl_cons ev_int (evl_cons ev_int evl_nil)))).cl eva_nil)))).cl (evl_cons (evr_call (ok_many_between T) mo_many_between (hr.mono (by omega)) T.C_many_between.hm T.C_many_between.hk T.C_many_between.hb (eva_cons (ev_name 13) (eva_cons (ev_tup (evl_cons ev_int (evl_cons ev_int (evl_cons ev_int evl_nil)))).cl (eva_cons (ev_tup (evl_cons ev_int (evl_cons ev_int (evl_cons ev_int evl_nil)))).cl eva_nil)))).cl evl_nil))) sc_law.nd)
    (evb_cons (evs_set 14 (evr_op od_add (ev_nameS 14) (ev_lst (evl_cons (evr_call (ok_many_between T) mo_many_between (hr.mono (by omega)) T.C_many_between.hm T.C_many_between.hk T.C_many_between.hb (eva_cons (ev_name 13) (eva_cons (ev_tup (evl_cons ev_int evl_nil)).cl (eva_cons (ev_tup (evl_cons ev_int (evl_cons ev_int evl_nil))).cl eva_nil)))).cl (evl_cons (evr_call (ok_many_between T) mo_many_between (hr.mono (by omega)) T.C_many_between.hm T.C_many_between.hk T.C_many_between.hb (eva_cons (ev_name 13) (eva_cons (ev_tup (evl_cons ev_int (evl_cons ev_int evl_nil))).cl (eva_cons (ev_tup (evl_cons ev_int (evl_cons ev_int evl_nil))).cl eva_nil)))).cl evl_nil))).cl) sc_law.nd)
    (evb_frz 14 (evb_one (evs_ret (evr_and (evr_cmp (od_eq2 hr.rm.units) (ev_nameS 14).bo (ev_lst (evl_cons ev_int (evl_cons ev_int (evl_cons ev_non (evl_cons ev_int evl_nil))))).cl) (evr_one (evr_cmp (od_eq2 hr.rm.units) (evr_call (ok_count T) mo_count (hr.mono (by omega)) T.C_count.hm T.C_count.hk T.C_count.hb (eva_cons (ev_tup (evl_cons ev_str (evl_cons (ev_tup (evl_cons ev_str (evl_cons (ev_tup (evl_cons ev_str (evl_cons (ev_tup (evl_cons ev_str (evl_cons ev_str evl_nil))).cl evl_nil))).cl evl_nil))).cl evl_nil))).cl eva_nil)).cl ev_int)))))))))))).nox, ?_⟩
  refine ⟨_, rfl, a, ns, rfl, hS, hlen, fun H1 d c sm hd hc sa => ?_⟩
  refine ⟨⟨K, H1, d :: c :: Tb.Ts, d :: c :: Tb.Ts, []⟩, [.un, .so, .un, .un, .un, .un, .un, .un, .un, .un, .un, .un, .un, .un, .un], List.replicate 15 none, endE (fun z => z = .va (.bool true)), rfl, ?_, ?_, ?_⟩
  · have no : ∀ (a : Addr), some a ∉ List.replicate 15 (none : Option Addr) := fun a m => by
      have := List.eq_of_mem_replicate m
      cases this
    refine ⟨Ext.refl, ⟨.inr ⟨d, c, rfl, sa⟩, fun P m => by obtain ⟨ps, e, ok⟩ := tabs P m; exact ⟨ps, sm _ _ e, ok⟩⟩, fun _ h => h, fun a m => .inl m, rfl, rfl, fun i s v oa g1 g2 g3 => ?_, fun i j a g1 _ => absurd (List.mem_of_getElem? g1) (no a), fun p m => (by cases m), fun a m => absurd m (no a)⟩
    have e3 : oa = none := List.eq_of_mem_replicate (List.mem_of_getElem? g3)
    subst e3
    match i, g1, g2 with
    | 0, g1, g2 => cases g1; rfl
    | 1, g1, g2 => cases g1; cases g2; exact ⟨rfl, d, c, rfl, rfl⟩
    | 2, g1, g2 => cases g1; rfl
    | 3, g1, g2 => cases g1; rfl
    | 4, g1, g2 => cases g1; rfl
    | 5, g1, g2 => cases g1; rfl
    | 6, g1, g2 => cases g1; rfl
    | 7, g1, g2 => cases g1; rfl
    | 8, g1, g2 => cases g1; rfl
    | 9, g1, g2 => cases g1; rfl
    | 10, g1, g2 => cases g1; rfl
    | 11, g1, g2 => cases g1; rfl
    | 12, g1, g2 => cases g1; rfl
    | 13, g1, g2 => cases g1; rfl
    | 14, g1, g2 => cases g1; rfl
    | n + 15, g1, g2 => cases g1
  · refine ⟨fun sd os σ H' r z => (nomatch (show RV.va .none = RV.va (.bool true) from z)), fun _ _ _ _ _ z => False.elim z, fun _ _ _ _ _ z => False.elim z, fun z v H' x rv e => ?_⟩
    have e : z = .va (.bool true) := e
    subst e
    have rv : Dx _ _ v (.bool true) := rv
    cases rv
    exact q H'
  refine ⟨by decide, forW_inv (fun ds sd => ∃ x2 x3 x4 x5 x6 x7 x8 x9 x10 x11 x12 x13 x14 : SV, sd = [.un, .so, x2, x3, x4, x5, x6, x7, x8, x9, x10, x11, x12, x13, x14]) ?_ ?_ _ _ ⟨_, _, _, _, _, _, _, _, _, _, _, _, _, rfl⟩⟩
  · rintro sd ⟨x2, x3, x4, x5, x6, x7, x8, x9, x10, x11, x12, x13, x14, rfl⟩
    have s3 : 3 ≤ sizeLine := by decide
    have s4 : 4 ≤ sizeLine := by decide
    have S : ∀ xs : List Int, (xs.all fun x => decide (0 ≤ x ∧ x < 128)) = true → SmB xs := fun xs h x m => of_decide_eq_true (List.all_eq_true.mp h x m)
    refine ⟨s3, sl2, sl2, sl2, s3, sl2, ?_⟩
    refine ⟨z1, s3, rfl, farR, _, _, _, _, _, _, _, _, _, [], [(.right abcR, [((9 : Nat) : Int)], 0), (abcR, [((2 : Nat) : Int)], 1)], 0, 2, PX.here (k := [((0 : Nat) : Int)]) (k' := [((1 : Nat) : Int)]) (.join 0 rfl) (.join 1 rfl) (by decide), .let 0 0, .step (key := [((9 : Nat) : Int)]) (.right 9) (.step (key := [((2 : Nat) : Int)]) (.join 2 rfl) (.let 2 _)), ⟨.step (key := [((0 : Nat) : Int)]) (.join 0 rfl) rfl (.let 0), .step (key := [((1 : Nat) : Int)]) (.join 1 rfl) rfl (.step (key := [((9 : Nat) : Int)]) (.right 9) rfl (.step (key := [((2 : Nat) : Int)]) (.join 2 rfl) rfl (.let 2)))⟩, ⟨S _ (by decide), S _ (by decide)⟩, by decide, by decide, rfl, ?_⟩
    refine ⟨s3, s3, rfl, farR, _, _, _, _, _, _, _, _, _, [(abcR, [((0 : Nat) : Int)], 0)], [(abcR, [((0 : Nat) : Int)], 0)], 0, 0, PX.deep (key := [((1 : Nat) : Int)]) (.join 1 rfl) (PX.here (k := [((0 : Nat) : Int)]) (k' := [((1 : Nat) : Int)]) (.right 0) (.right 1) (by decide)), .step (key := [((0 : Nat) : Int)]) (.join 0 rfl) (.let 0 _), .step (key := [((0 : Nat) : Int)]) (.join 0 rfl) (.let 0 _), ⟨.step (key := [((1 : Nat) : Int)]) (.join 1 rfl) rfl (.step (key := [((0 : Nat) : Int)]) (.right 0) rfl (.step (key := [((0 : Nat) : Int)]) (.join 0 rfl) rfl (.let 0))), .step (key := [((1 : Nat) : Int)]) (.join 1 rfl) rfl (.step (key := [((1 : Nat) : Int)]) (.right 1) rfl (.step (key := [((0 : Nat) : Int)]) (.join 0 rfl) rfl (.let 0)))⟩, ⟨S _ (by decide), S _ (by decide)⟩, by decide, by decide, rfl, sl2, ?_⟩
    refine ⟨z1, sl2, rfl, farR, _, _, _, _, _, _, _, _, _, [], [(.left (.let 1), [((0 : Nat) : Int)], 0)], 0, 1, PX.here (k := [((0 : Nat) : Int)]) (k' := [((2 : Nat) : Int)]) (.join 0 rfl) (.join 2 rfl) (by decide), .let 0 0, .step (key := [((0 : Nat) : Int)]) (.left 0) (.let 1 _), ⟨.step (key := [((0 : Nat) : Int)]) (.join 0 rfl) rfl (.let 0), .step (key := [((2 : Nat) : Int)]) (.join 2 rfl) rfl (.step (key := [((0 : Nat) : Int)]) (.left 0) rfl (.let 1))⟩, ⟨S _ (by decide), S _ (by decide)⟩, by decide, by decide, rfl, ?_⟩
    refine ⟨sl2, sl2, rfl, farR, _, _, _, _, _, _, _, _, _, [], [], 1, 1, PX.deep (key := [((2 : Nat) : Int)]) (.join 2 rfl) (PX.here (k := [((9 : Nat) : Int)]) (k' := [((0 : Nat) : Int)]) (.left 9) (.left 0) (by decide)), .let 1 0, .let 1 0, ⟨.step (key := [((2 : Nat) : Int)]) (.join 2 rfl) rfl (.step (key := [((9 : Nat) : Int)]) (.left 9) rfl (.let 1)), .step (key := [((2 : Nat) : Int)]) (.join 2 rfl) rfl (.step (key := [((0 : Nat) : Int)]) (.left 0) rfl (.let 1))⟩, ⟨S _ (by decide), S _ (by decide)⟩, by decide, by decide, rfl, sl2, ?_⟩
    have c1 : btC farR [((0 : Nat) : Int)] [((1 : Nat) : Int)] [] [(.right abcR, [((9 : Nat) : Int)], 0), (abcR, [((2 : Nat) : Int)], 1)] = some 29 := by decide +kernel
    have c2 : btC (.right abcR) [((0 : Nat) : Int)] [((1 : Nat) : Int)] [(abcR, [((0 : Nat) : Int)], 0)] [(abcR, [((0 : Nat) : Int)], 0)] = some 2 := by decide +kernel
    have c3 : btC farR [((0 : Nat) : Int)] [((2 : Nat) : Int)] [] [(.left (.let 1), [((0 : Nat) : Int)], 0)] = none := by decide +kernel
    have c4 : btC (.left (.let 1)) [((9 : Nat) : Int)] [((0 : Nat) : Int)] [] [] = some 8 := by decide +kernel
    rw [c1, c2, c3, c4]
    have GL : Good (.list [.int 29, .int 2, .none, .int 8]) := good_pl (by decide +kernel) (by decide +kernel) (by decide +kernel)
    refine ⟨s4, s4, ⟨GL.sh, GL.sh⟩, ite3 (fun _ => ?_) (fun h => absurd GL.eq h)⟩
    exact ⟨sl2, sl2, sl2, sl2, rfl, .join [.let 0, .join [.let 0, .let 1]], by decide, rfl, rfl⟩
  rintro dd ds sd k hk ⟨x2, x3, x4, x5, x6, x7, x8, x9, x10, x11, x12, x13, x14, rfl⟩
  refine ⟨rfl, pk (by decide) fun m m0 m1 => ?_⟩
  obtain ⟨m, rfl⟩ := Int.eq_ofNat_of_zero_le m0
  refine ⟨rfl, 1 + m, by omega, by omega, rfl, fun r w hd hn => ?_⟩
  have GR := good_row r (by omega) (by omega)
  have GC : Good (cntD r.cnt) := good_cnt fun n h => by have := Rw.cnt_le r n h; omega
  refine ⟨rfl, r, w, by omega, rfl, fun p1 hp1 sp1 lp1 => ⟨GR.show_, ?_⟩⟩
  obtain ⟨ss, c, way⟩ := hp1.ad.way 0
  refine ⟨rfl, r, by omega, rfl, GC.show_, rfl, r, by omega, by omega, rfl, GC.show_, ite3 (fun h => absurd h nq) (fun _ => ?_)⟩
  refine ⟨rfl, r, p1, p1, hp1, hp1, .of sp1, .of sp1, by omega, by omega, rfl, .inl ⟨rfl, ?_⟩⟩
  refine ⟨by decide, forW_inv (fun ds sd => ∃ (y6 y7 y8 y9 y10 : SV), sd = [.un, .so, .va dd, .va r.toD, .va (intsD p1), .va (.str r.toD.shown), y6, y7, y8, y9, y10, x11, x12, x13, x14]) ?_ ?_ _ _ ⟨_, _, _, _, _, rfl⟩⟩
  · rintro sd ⟨y6, y7, y8, y9, y10, rfl⟩
    refine ⟨rfl, pk (by decide) fun t t0 t1 => ?_⟩
    have t8 : t < 8 := by omega
    refine ⟨by omega, forW_inv (fun ds sd => ∃ (j l : Nat) (q : List Int) (y6 y12 : SV), ds = (List.range' j l).map (fun i : Nat => PyData.int (i : Int)) ∧ j + l ≤ 8 ∧ AdS r q ∧ Bd (64 + (j : Int)) q ∧ StP r p1 q j ∧ sd = [.un, .so, .va dd, .va r.toD, .va (intsD p1), .va (.str r.toD.shown), y6, y7, y8, y9, y10, .va (intsD q), y12, x13, x14]) ?_ ?_ _ _ ⟨0, t.toNat, p1, _, _, range_eq _, by omega, hp1, Bd.mono sp1 (by omega), .inl rfl, rfl⟩⟩
    · rintro sd ⟨j, l, q, y6, y12, _, _, _, _, _, rfl⟩
      exact ⟨GR.show_, ite3 (fun h => absurd h nq) (fun _ => hk _ ⟨_, _, _, _, _, _, _, _, _, _, _, _, _, rfl⟩)⟩
    rintro d ds3 sd k3 hk3 ⟨j, l, q, y6, y12, e, hjl, aq, bq, sq, rfl⟩
    cases l with
    | zero => cases e
    | succ l =>
      obtain ⟨rfl, rfl⟩ := List.cons.inj e
      refine gt_go ?_
      obtain ⟨ssq, cq, wq⟩ := aq.ad.way 0
      have lq := aq.ad.len
      refine ⟨rfl, r, q, ssq, cq, wq, w, by omega, by omega, rfl, ?_⟩
      dsimp only
      show wIf _ _ _ _ _
      refine bind_of (fun z => ∃ q2, z = .va (intsD q2) ∧ AdS r q2 ∧ Bd (64 + ((j + 1 : Nat) : Int)) q2 ∧ StP r p1 q2 (j + 1)) (fun Q1 q1 => ?_) ?_
      · rcases h : nbP false ssq with _ | q2
        · exact q1 _ ⟨q, rfl, aq, bq.mono (by omega), sq.up⟩
        · have e := nbP_some h
          exact q1 _ ⟨q2, rfl, (nbF_some false wq aq q2 e).1, (nbF_bd false wq (M := 64 + (j : Int)) (by omega) bq q2 e).mono (by omega), sq.next hp1 aq wq h⟩
      rintro _ ⟨q2, rfl, a2, b2, s2⟩
      have sm2 : SmB q2 := b2.mono (by omega)
      show wAnd _ _ _ _
      refine tst_no (fun Q' q' => ?_) (by rw [if_neg Bool.false_ne_true]; exact hk3 _ ⟨j + 1, l, q2, _, _, rfl, by omega, a2, b2, s2, rfl⟩)
      refine ⟨⟨ints_sh q2, ints_sh p1⟩, ?_⟩
      show (if (!PyData.eqv (intsD q2) (intsD p1)) = true then _ else _)
      rw [ints_eqv]
      rcases s2 with rfl | ⟨r1, k, k', s, s', p2, q3, x, hk, hb⟩
      · rw [decide_eq_true rfl]
        exact q'
      · rw [decide_eq_false (fun z => x.ne z.symm)]
        obtain ⟨st, st', nk, hn1, hd1, _, f1, f2⟩ := x.facts
        obtain ⟨sa, ca, wa⟩ := (f1 hp1).2.ad.way 0
        obtain ⟨sb, cb, wb⟩ := (f2 a2).2.ad.way 0
        obtain ⟨b, eb, lb⟩ := hb _ _ _ _ _ _ wa wb
        refine ⟨rfl, r, p1, q2, r1, k, k', s, s', p2, q3, sa, sb, ca, cb, x, wa, wb, ⟨hp1, a2⟩, ⟨.of sp1, sm2⟩, by omega, by omega, rfl, ?_⟩
        rw [eb]
        refine ⟨trivial, ?_⟩
        show Q' (decide ((j : Int) < (b : Int)))
        rw [decide_eq_false (by omega)]
        exact q'
  rintro d ds2 sd k2 hk2 ⟨y6, y7, y8, y9, y10, rfl⟩
  have go : ∀ a b c d e : SV, k2 [.un, .so, .va dd, .va r.toD, .va (intsD p1), .va (.str r.toD.shown), a, b, c, d, e, x11, x12, x13, x14] := fun a b c d e => hk2 _ ⟨_, _, _, _, _, rfl⟩
  refine gt_go ?_
  refine ⟨rfl, r, p1, w, by omega, hp1, sp1, rfl, fun q aq sq => ⟨⟨ints_sh q, ints_sh p1⟩, ?_⟩⟩
  show (if PyData.eqv (intsD q) (intsD p1) = true then _ else _)
  rw [ints_eqv]
  refine ite3 (fun _ => go _ _ _ _ _) (fun ne => ?_)
  have ne : p1 ≠ q := fun e => ne (decide_eq_true e.symm)
  have sq := SmB.of sq
  obtain ⟨r1, k, k', s, s', p2, q2, x⟩ := PX.of hp1.ad aq.ad ne
  obtain ⟨pre, e1, e2, prt⟩ := x.prt 0
  obtain ⟨st, st', nk, _, _, _, f1, f2⟩ := x.facts
  dsimp only
  show wIf _ _ _ _ _
  refine bind_of (fun z => ∃ (a b : List Int) (r1 : Rw) (k k' : List Int) (s s' : Rw) (p2 q2 : List Int), PX r a b r1 k k' s s' p2 q2 ∧ keyB r1 k k' = true ∧ (AdS r a ∧ SmB a ∧ AdS r b ∧ SmB b) ∧ z = .va (.tuple [intsD a, intsD b])) (fun Q1 q1 => ?_) ?_
  · refine ⟨rfl, r, p1, q, _, hp1, aq, prt, by omega, rfl, ?_⟩
    show (if keyB r1 k k' = true then _ else _)
    refine ite3 (fun hk => ⟨sl2, q1 _ ⟨p1, q, r1, k, k', s, s', p2, q2, x, hk, ⟨hp1, .of sp1, aq, sq⟩, rfl⟩⟩) (fun hk => ⟨sl2, q1 _ ⟨q, p1, r1, k', k, s', s, q2, p2, x.swap, ?_, ⟨aq, sq, hp1, .of sp1⟩, rfl⟩⟩)
    exact key_tot st st' (f1 hp1).1 (f2 aq).1 nk (by simpa using hk)
  rintro _ ⟨a, b, r1, k, k', s, s', p2, q2, x, hk, ⟨aa, sa', ab, sb'⟩, rfl⟩
  obtain ⟨st, st', nk, hn1, hd1, _, f1, f2⟩ := x.facts
  obtain ⟨sa, ca, wa⟩ := (f1 aa).2.ad.way 0
  obtain ⟨sb, cb, wb⟩ := (f2 ab).2.ad.way 0
  have GT := good_cnt (btC_le x wa wb sa' sb' (by omega) (by omega))
  refine ⟨rfl, rfl, rfl, r, a, b, r1, k, k', s, s', p2, q2, sa, sb, ca, cb, x, wa, wb, ⟨sa', sb'⟩, by omega, by omega, rfl, ?_⟩
  refine ⟨rfl, r, a, b, r1, k, k', s, s', p2, q2, sa, sb, ca, cb, x, wa, wb, ⟨aa, ab⟩, ⟨sa', sb'⟩, by omega, by omega, rfl, GT.show_, GT.show_, ite3 (fun h => absurd h nq) (fun _ => ?_)⟩
  refine ⟨rfl, r, a, b, aa, ab, sa', sb', by omega, by omega, rfl, .inr ⟨a, b, r1, k, k', s, s', p2, q2, sa, sb, ca, cb, .inl ⟨rfl, rfl⟩, x, hk, wa, wb, ?_⟩⟩
  refine ⟨rfl, r, b, a, ab, aa, sb', sa', by omega, by omega, rfl, .inr ⟨a, b, r1, k, k', s, s', p2, q2, sa, sb, ca, cb, .inr ⟨rfl, rfl⟩, x, hk, wa, wb, ?_⟩⟩
  have GB := good_bb (btC r1 k k' sa sb).isSome (btC r1 k k' sa sb).isSome
  refine ⟨sl2, GB.show_, ?_⟩
  have eS : (!isNon (cntD (btC r1 k k' sa sb))) = (btC r1 k k' sa sb).isSome := by rw [isNon_cnt]; cases btC r1 k k' sa sb <;> rfl
  show [PyData.bool (!isNon (cntD (btC r1 k k' sa sb)))].length ≤ sizeLine ∧ _
  rw [eS]
  exact ⟨z1, ⟨by decide, by decide, by show 1 ≤ 1000; decide⟩, GB.show_, ite3 (fun h => absurd h nq) (fun _ => go _ _ _ _ _)⟩
end

end K17

set_option Elab.async false
set_option linter.all false
set_option maxRecDepth 100000
set_option maxHeartbeats 4000000
namespace K17
open PySem PySem.Spec PyProof.Rows L2 DL
local macro_rules | `(tactic| walk_at "rw") => `(tactic| simp only [d01, d0m, dm0, d10, Rw.toD, rdIn, wds, flatD, List.all_cons, List.all_nil, dw, Bool.true_or, Bool.false_or, Bool.or_false, Bool.or_true, Bool.true_and, Bool.and_true, Bool.false_and, Bool.and_false, Bool.not_true, Bool.not_false, decide_true, decide_false, true_and, and_true, if_true, if_false, Bool.false_eq_true, reduceIte, Nat.zero_add, Nat.reduceAdd, ite_self, wJR, wJL, wJM, wRJ, wRL, wRM, wLJ, wLR, wLM, wMJ, wMR, wML])
local macro_rules | `(tactic| walk_at "st") => `(tactic| simp only [wBo, w2, rdEq2, wNameS, wName, wC, wPart, startD, List.map_cons, List.map_nil, List.cons_append, List.nil_append, getS, AV.sv, rd1, List.length_cons, List.length_nil, List.replicate, endE, frzD, List.set, wOr, wAnd, wNot, wTru, wIs, wIf, wAndV, wOrV, wNotV, wIxC, wNeg, dat_va, dat_fr, sv_va, sv_fr, gtName, gtCons, gtNil, gtTup, wFrz, wBack, wIfS, wAugI, wPar3, wIsN, if_true, if_false, Bool.false_eq_true, Bool.not_true, Bool.not_false, decide_true, decide_false, Nat.sub_zero, Nat.succ_sub_succ_eq_sub, ite_true, ite_false, reduceIte, true_and, and_true, Nat.zero_add, Nat.reduceAdd, qisStrD_str, qisStrD_tup, qisStrD_lst, qisStrD_int, qisStrD_bl, qisStrD_non, qisStrD_dct, qisTupD_str, qisTupD_tup, qisTupD_lst, qisTupD_int, qisTupD_bl, qisTupD_non, qisTupD_dct, qisLstD_str, qisLstD_tup, qisLstD_lst, qisLstD_int, qisLstD_bl, qisLstD_non, qisLstD_dct, qisDctD_str, qisDctD_tup, qisDctD_lst, qisDctD_int, qisDctD_bl, qisDctD_non, qisDctD_dct, qisBooD_str, qisBooD_tup, qisBooD_lst, qisBooD_int, qisBooD_bl, qisBooD_non, qisBooD_dct, qisIntD_str, qisIntD_tup, qisIntD_lst, qisIntD_int, qisIntD_bl, qisIntD_non, qisIntD_dct, qAddI, qAddS, qAddT, qAddL, qInt, qSlT, qSlL, qSlS, qEqI, qEqS, qEqB, qEqN, qEqT, qEqL, qIxT0, qIxT1, qIxT2, qIxL0, qIxL1, qLenT, qLenL, qLenS, qTupT, qTupL, qLstT, qLstL, qIt, qItL, qIntI, qBl, qTrT, qTrL, qTrI, qTrN, qNoN, qNoT, qNoL, qNoI, qNoS])
local macro_rules | `(tactic| walk_at "run") => `(tactic| ((try walk_at "rw"); (try walk_at "st"); (try walk_at "rw")))
local macro_rules | `(tactic| walk_at "dl") => `(tactic| simp only [wBo, w2, rdEq2, dEq, wNameS, wName, wC, startD, List.map_cons, List.map_nil, List.cons_append, List.nil_append, getS, AV.sv, rd1, List.length_cons, List.length_nil, List.replicate, endE, frzD, wBack, List.set, wOr, wAnd, wNot, wTru, wIs, wIf, wAndV, wOrV, wNotV, wIxC, ixC, nthD, dLen, dTuple, dList, dat_va, dat_fr, sv_va, sv_fr, gtName, gtCons, gtNil, gtTup, truD, wFrz, wIfS, if_true, if_false, Bool.false_eq_true, isStrD, isTupD, isLstD, isBooD, isIntD, isDctD, Bool.not_true, Bool.not_false, decide_true, decide_false, Nat.sub_zero, Nat.succ_sub_succ_eq_sub, ite_true, ite_false, reduceIte, true_and, and_true])

theorem all_mk {l : PySem.W.OpenLaw} {q : Program} {w : World} {K : PySem.W.Frag} {h : Heap} {mg : Str → Option Value} {fa f1 f2 f3 f4 f5 f6 f7 f8 f9 f10 f11 f12 f13 f14 f15 f16 f17 f18 f19 f20 f21 f22 f23 f24 f25 f26 f27 f28 f29 f30 f31 f32 f33 f34 f35 f36 f37 : Addr} (X : K.In h) (G : h.Ns mainGlobals mg) (hfa : mg "law" = some (.ref fa)) (W : OwnT q mg h)
    {od1 an1 od2 an2 od3 an3 od4 an4 od5 an5 od6 an6 od7 an7 od8 an8 od9 an9 od10 an10 od11 an11 od12 an12 od13 an13 od14 an14 od15 an15 od16 an16 od17 an17 od18 an18 od19 an19 od20 an20 od21 an21 od22 an22 od23 an23 od24 an24 od25 an25 od26 an26 od27 an27 od28 an28 od29 an29 od30 an30 od31 an31 od32 an32 od33 an33 od34 an34 od35 an35 od36 an36 od37 an37 : Option Addr} {sl1 sl2 sl3 sl4 sl5 sl6 sl7 sl8 sl9 sl10 sl11 sl12 sl13 sl14 sl15 sl16 sl17 sl18 sl19 sl20 sl21 sl22 sl23 sl24 sl25 sl26 sl27 sl28 sl29 sl30 sl31 sl32 sl33 sl34 sl35 sl36 sl37 : Array (Option Value)} {oc1 kV1 dc1 pm1 ct1 oc2 kV2 dc2 pm2 ct2 oc3 kV3 dc3 pm3 ct3 oc4 kV4 dc4 pm4 ct4 oc5 kV5 dc5 pm5 ct5 oc6 kV6 dc6 pm6 ct6 oc7 kV7 dc7 pm7 ct7 oc8 kV8 dc8 pm8 ct8 oc9 kV9 dc9 pm9 ct9 oc10 kV10 dc10 pm10 ct10 oc11 kV11 dc11 pm11 ct11 oc12 kV12 dc12 pm12 ct12 oc13 kV13 dc13 pm13 ct13 oc14 kV14 dc14 pm14 ct14 oc15 kV15 dc15 pm15 ct15 oc16 kV16 dc16 pm16 ct16 oc17 kV17 dc17 pm17 ct17 oc18 kV18 dc18 pm18 ct18 oc19 kV19 dc19 pm19 ct19 oc20 kV20 dc20 pm20 ct20 oc21 kV21 dc21 pm21 ct21 oc22 kV22 dc22 pm22 ct22 oc23 kV23 dc23 pm23 ct23 oc24 kV24 dc24 pm24 ct24 oc25 kV25 dc25 pm25 ct25 oc26 kV26 dc26 pm26 ct26 oc27 kV27 dc27 pm27 ct27 oc28 kV28 dc28 pm28 ct28 oc29 kV29 dc29 pm29 ct29 oc30 kV30 dc30 pm30 ct30 oc31 kV31 dc31 pm31 ct31 oc32 kV32 dc32 pm32 ct32 oc33 kV33 dc33 pm33 ct33 oc34 kV34 dc34 pm34 ct34 oc35 kV35 dc35 pm35 ct35 oc36 kV36 dc36 pm36 ct36 oc37 kV37 dc37 pm37 ct37 cd1 cd2 cd3 cd4 cd5 cd7 cd8 cd9 cd10 cd11 cd12 cd14 cd15 cd16 cd17 cd18 cd19 cd20 cd21 cd22 cd23 cd24 cd25 cd26 cd27 cd28 cd29 cd30 cd31 cd32 cd33 cd34 cd35 cd36 cd37 : Value} {t6 t13 : Addr}
    (a1 : PySem.W.nsIn K mainGlobals "is_number" = some (some (.ref f1))) (l1 : K.lookup f1 = some ⟨oc1, od1, .func (PySem.W.fnOf "is_number" "is_number" (defArgs s_is_number) (defBody s_is_number) (defScope s_is_number) .none kV1 dc1 pm1 an1 cd1 ct1), sl1⟩) (c1 : PySem.W.codeIn K cd1 "is_number" = true) (k1 : PySem.W.keepIn K (.ref f1) = true)
    (a2 : PySem.W.nsIn K mainGlobals "inner_first" = some (some (.ref f2))) (l2 : K.lookup f2 = some ⟨oc2, od2, .func (PySem.W.fnOf "inner_first" "inner_first" (defArgs s_inner_first) (defBody s_inner_first) (defScope s_inner_first) .none kV2 dc2 pm2 an2 cd2 ct2), sl2⟩) (c2 : PySem.W.codeIn K cd2 "inner_first" = true) (k2 : PySem.W.keepIn K (.ref f2) = true)
    (a3 : PySem.W.nsIn K mainGlobals "parts_of" = some (some (.ref f3))) (l3 : K.lookup f3 = some ⟨oc3, od3, .func (PySem.W.fnOf "parts_of" "parts_of" (defArgs s_parts_of) (defBody s_parts_of) (defScope s_parts_of) .none kV3 dc3 pm3 an3 cd3 ct3), sl3⟩) (c3 : PySem.W.codeIn K cd3 "parts_of" = true) (k3 : PySem.W.keepIn K (.ref f3) = true)
    (a4 : PySem.W.nsIn K mainGlobals "part_at" = some (some (.ref f4))) (l4 : K.lookup f4 = some ⟨oc4, od4, .func (PySem.W.fnOf "part_at" "part_at" (defArgs s_part_at) (defBody s_part_at) (defScope s_part_at) .none kV4 dc4 pm4 an4 cd4 ct4), sl4⟩) (c4 : PySem.W.codeIn K cd4 "part_at" = true) (k4 : PySem.W.keepIn K (.ref f4) = true)
    (a5 : PySem.W.nsIn K mainGlobals "_numbers_at" = some (some (.ref f5))) (l5 : K.lookup f5 = some ⟨oc5, od5, .func (PySem.W.fnOf "_numbers_at" "_numbers_at" (defArgs s__numbers_at) (defBody s__numbers_at) (defScope s__numbers_at) .none kV5 dc5 pm5 an5 cd5 ct5), sl5⟩) (c5 : PySem.W.codeIn K cd5 "_numbers_at" = true) (k5 : PySem.W.keepIn K (.ref f5) = true)
    (a6 : PySem.W.nsIn K mainGlobals "_tell_a_part" = some (some (.ref f6))) (l6 : K.lookup f6 = some ⟨oc6, od6, .func (PySem.W.fnOf "_tell_a_part" "_tell_a_part" (defArgs s__tell_a_part) (defBody s__tell_a_part) (defScope s__tell_a_part) .none kV6 dc6 pm6 an6 (.ref t6) ct6), sl6⟩) (c6 : PySem.W.codeIn K (.ref t6) "_tell_a_part" = true) (k6 : PySem.W.keepIn K (.ref f6) = true)
    (a7 : PySem.W.nsIn K mainGlobals "way_to" = some (some (.ref f7))) (l7 : K.lookup f7 = some ⟨oc7, od7, .func (PySem.W.fnOf "way_to" "way_to" (defArgs s_way_to) (defBody s_way_to) (defScope s_way_to) .none kV7 dc7 pm7 an7 cd7 ct7), sl7⟩) (c7 : PySem.W.codeIn K cd7 "way_to" = true) (k7 : PySem.W.keepIn K (.ref f7) = true)
    (a8 : PySem.W.nsIn K mainGlobals "parting" = some (some (.ref f8))) (l8 : K.lookup f8 = some ⟨oc8, od8, .func (PySem.W.fnOf "parting" "parting" (defArgs s_parting) (defBody s_parting) (defScope s_parting) .none kV8 dc8 pm8 an8 cd8 ct8), sl8⟩) (c8 : PySem.W.codeIn K cd8 "parting" = true) (k8 : PySem.W.keepIn K (.ref f8) = true)
    (a9 : PySem.W.nsIn K mainGlobals "comes_ahead" = some (some (.ref f9))) (l9 : K.lookup f9 = some ⟨oc9, od9, .func (PySem.W.fnOf "comes_ahead" "comes_ahead" (defArgs s_comes_ahead) (defBody s_comes_ahead) (defScope s_comes_ahead) .none kV9 dc9 pm9 an9 cd9 ct9), sl9⟩) (c9 : PySem.W.codeIn K cd9 "comes_ahead" = true) (k9 : PySem.W.keepIn K (.ref f9) = true)
    (a10 : PySem.W.nsIn K mainGlobals "_met_first" = some (some (.ref f10))) (l10 : K.lookup f10 = some ⟨oc10, od10, .func (PySem.W.fnOf "_met_first" "_met_first" (defArgs s__met_first) (defBody s__met_first) (defScope s__met_first) .none kV10 dc10 pm10 an10 cd10 ct10), sl10⟩) (c10 : PySem.W.codeIn K cd10 "_met_first" = true) (k10 : PySem.W.keepIn K (.ref f10) = true)
    (a11 : PySem.W.nsIn K mainGlobals "next_place" = some (some (.ref f11))) (l11 : K.lookup f11 = some ⟨oc11, od11, .func (PySem.W.fnOf "next_place" "next_place" (defArgs s_next_place) (defBody s_next_place) (defScope s_next_place) .none kV11 dc11 pm11 an11 cd11 ct11), sl11⟩) (c11 : PySem.W.codeIn K cd11 "next_place" = true) (k11 : PySem.W.keepIn K (.ref f11) = true)
    (a12 : PySem.W.nsIn K mainGlobals "_neighbour" = some (some (.ref f12))) (l12 : K.lookup f12 = some ⟨oc12, od12, .func (PySem.W.fnOf "_neighbour" "_neighbour" (defArgs s__neighbour) (defBody s__neighbour) (defScope s__neighbour) .none kV12 dc12 pm12 an12 cd12 ct12), sl12⟩) (c12 : PySem.W.codeIn K cd12 "_neighbour" = true) (k12 : PySem.W.keepIn K (.ref f12) = true)
    (a13 : PySem.W.nsIn K mainGlobals "count" = some (some (.ref f13))) (l13 : K.lookup f13 = some ⟨oc13, od13, .func (PySem.W.fnOf "count" "count" (defArgs s_count) (defBody s_count) (defScope s_count) .none kV13 dc13 pm13 an13 (.ref t13) ct13), sl13⟩) (c13 : PySem.W.codeIn K (.ref t13) "count" = true) (k13 : PySem.W.keepIn K (.ref f13) = true)
    (a14 : PySem.W.nsIn K mainGlobals "laid" = some (some (.ref f14))) (l14 : K.lookup f14 = some ⟨oc14, od14, .func (PySem.W.fnOf "laid" "laid" (defArgs s_laid) (defBody s_laid) (defScope s_laid) .none kV14 dc14 pm14 an14 cd14 ct14), sl14⟩) (c14 : PySem.W.codeIn K cd14 "laid" = true) (k14 : PySem.W.keepIn K (.ref f14) = true)
    (a15 : PySem.W.nsIn K mainGlobals "laid_of" = some (some (.ref f15))) (l15 : K.lookup f15 = some ⟨oc15, od15, .func (PySem.W.fnOf "laid_of" "laid_of" (defArgs s_laid_of) (defBody s_laid_of) (defScope s_laid_of) .none kV15 dc15 pm15 an15 cd15 ct15), sl15⟩) (c15 : PySem.W.codeIn K cd15 "laid_of" = true) (k15 : PySem.W.keepIn K (.ref f15) = true)
    (a16 : PySem.W.nsIn K mainGlobals "ahead" = some (some (.ref f16))) (l16 : K.lookup f16 = some ⟨oc16, od16, .func (PySem.W.fnOf "ahead" "ahead" (defArgs s_ahead) (defBody s_ahead) (defScope s_ahead) .none kV16 dc16 pm16 an16 cd16 ct16), sl16⟩) (c16 : PySem.W.codeIn K cd16 "ahead" = true) (k16 : PySem.W.keepIn K (.ref f16) = true)
    (a17 : PySem.W.nsIn K mainGlobals "behind" = some (some (.ref f17))) (l17 : K.lookup f17 = some ⟨oc17, od17, .func (PySem.W.fnOf "behind" "behind" (defArgs s_behind) (defBody s_behind) (defScope s_behind) .none kV17 dc17 pm17 an17 cd17 ct17), sl17⟩) (c17 : PySem.W.codeIn K cd17 "behind" = true) (k17 : PySem.W.keepIn K (.ref f17) = true)
    (a18 : PySem.W.nsIn K mainGlobals "_parts_ahead" = some (some (.ref f18))) (l18 : K.lookup f18 = some ⟨oc18, od18, .func (PySem.W.fnOf "_parts_ahead" "_parts_ahead" (defArgs s__parts_ahead) (defBody s__parts_ahead) (defScope s__parts_ahead) .none kV18 dc18 pm18 an18 cd18 ct18), sl18⟩) (c18 : PySem.W.codeIn K cd18 "_parts_ahead" = true) (k18 : PySem.W.keepIn K (.ref f18) = true)
    (a19 : PySem.W.nsIn K mainGlobals "_parts_behind" = some (some (.ref f19))) (l19 : K.lookup f19 = some ⟨oc19, od19, .func (PySem.W.fnOf "_parts_behind" "_parts_behind" (defArgs s__parts_behind) (defBody s__parts_behind) (defScope s__parts_behind) .none kV19 dc19 pm19 an19 cd19 ct19), sl19⟩) (c19 : PySem.W.codeIn K cd19 "_parts_behind" = true) (k19 : PySem.W.keepIn K (.ref f19) = true)
    (a20 : PySem.W.nsIn K mainGlobals "between" = some (some (.ref f20))) (l20 : K.lookup f20 = some ⟨oc20, od20, .func (PySem.W.fnOf "between" "between" (defArgs s_between) (defBody s_between) (defScope s_between) .none kV20 dc20 pm20 an20 cd20 ct20), sl20⟩) (c20 : PySem.W.codeIn K cd20 "between" = true) (k20 : PySem.W.keepIn K (.ref f20) = true)
    (a21 : PySem.W.nsIn K mainGlobals "_parts_between" = some (some (.ref f21))) (l21 : K.lookup f21 = some ⟨oc21, od21, .func (PySem.W.fnOf "_parts_between" "_parts_between" (defArgs s__parts_between) (defBody s__parts_between) (defScope s__parts_between) .none kV21 dc21 pm21 an21 cd21 ct21), sl21⟩) (c21 : PySem.W.codeIn K cd21 "_parts_between" = true) (k21 : PySem.W.keepIn K (.ref f21) = true)
    (a22 : PySem.W.nsIn K mainGlobals "many_between" = some (some (.ref f22))) (l22 : K.lookup f22 = some ⟨oc22, od22, .func (PySem.W.fnOf "many_between" "many_between" (defArgs s_many_between) (defBody s_many_between) (defScope s_many_between) .none kV22 dc22 pm22 an22 cd22 ct22), sl22⟩) (c22 : PySem.W.codeIn K cd22 "many_between" = true) (k22 : PySem.W.keepIn K (.ref f22) = true)
    (a23 : PySem.W.nsIn K mainGlobals "are_near" = some (some (.ref f23))) (l23 : K.lookup f23 = some ⟨oc23, od23, .func (PySem.W.fnOf "are_near" "are_near" (defArgs s_are_near) (defBody s_are_near) (defScope s_are_near) .none kV23 dc23 pm23 an23 cd23 ct23), sl23⟩) (c23 : PySem.W.codeIn K cd23 "are_near" = true) (k23 : PySem.W.keepIn K (.ref f23) = true)
    (a24 : PySem.W.nsIn K mainGlobals "_law_open_cells" = some (some (.ref f24))) (l24 : K.lookup f24 = some ⟨oc24, od24, .func (PySem.W.fnOf "_law_open_cells" "_law_open_cells" (defArgs s__law_open_cells) (defBody s__law_open_cells) (defScope s__law_open_cells) .none kV24 dc24 pm24 an24 cd24 ct24), sl24⟩) (c24 : PySem.W.codeIn K cd24 "_law_open_cells" = true) (k24 : PySem.W.keepIn K (.ref f24) = true)
    (a25 : PySem.W.nsIn K mainGlobals "_law_pick" = some (some (.ref f25))) (l25 : K.lookup f25 = some ⟨oc25, od25, .func (PySem.W.fnOf "_law_pick" "_law_pick" (defArgs s__law_pick) (defBody s__law_pick) (defScope s__law_pick) .none kV25 dc25 pm25 an25 cd25 ct25), sl25⟩) (c25 : PySem.W.codeIn K cd25 "_law_pick" = true) (k25 : PySem.W.keepIn K (.ref f25) = true)
    (a26 : PySem.W.nsIn K mainGlobals "_law_draw_row" = some (some (.ref f26))) (l26 : K.lookup f26 = some ⟨oc26, od26, .func (PySem.W.fnOf "_law_draw_row" "_law_draw_row" (defArgs s__law_draw_row) (defBody s__law_draw_row) (defScope s__law_draw_row) .none kV26 dc26 pm26 an26 cd26 ct26), sl26⟩) (c26 : PySem.W.codeIn K cd26 "_law_draw_row" = true) (k26 : PySem.W.keepIn K (.ref f26) = true)
    (a27 : PySem.W.nsIn K mainGlobals "_law_few" = some (some (.ref f27))) (l27 : K.lookup f27 = some ⟨oc27, od27, .func (PySem.W.fnOf "_law_few" "_law_few" (defArgs s__law_few) (defBody s__law_few) (defScope s__law_few) .none kV27 dc27 pm27 an27 cd27 ct27), sl27⟩) (c27 : PySem.W.codeIn K cd27 "_law_few" = true) (k27 : PySem.W.keepIn K (.ref f27) = true)
    (a28 : PySem.W.nsIn K mainGlobals "_law_size" = some (some (.ref f28))) (l28 : K.lookup f28 = some ⟨oc28, od28, .func (PySem.W.fnOf "_law_size" "_law_size" (defArgs s__law_size) (defBody s__law_size) (defScope s__law_size) .none kV28 dc28 pm28 an28 cd28 ct28), sl28⟩) (c28 : PySem.W.codeIn K cd28 "_law_size" = true) (k28 : PySem.W.keepIn K (.ref f28) = true)
    (a29 : PySem.W.nsIn K mainGlobals "_law_copy" = some (some (.ref f29))) (l29 : K.lookup f29 = some ⟨oc29, od29, .func (PySem.W.fnOf "_law_copy" "_law_copy" (defArgs s__law_copy) (defBody s__law_copy) (defScope s__law_copy) .none kV29 dc29 pm29 an29 cd29 ct29), sl29⟩) (c29 : PySem.W.codeIn K cd29 "_law_copy" = true) (k29 : PySem.W.keepIn K (.ref f29) = true)
    (a30 : PySem.W.nsIn K mainGlobals "_law_draw_address" = some (some (.ref f30))) (l30 : K.lookup f30 = some ⟨oc30, od30, .func (PySem.W.fnOf "_law_draw_address" "_law_draw_address" (defArgs s__law_draw_address) (defBody s__law_draw_address) (defScope s__law_draw_address) .none kV30 dc30 pm30 an30 cd30 ct30), sl30⟩) (c30 : PySem.W.codeIn K cd30 "_law_draw_address" = true) (k30 : PySem.W.keepIn K (.ref f30) = true)
    (a31 : PySem.W.nsIn K mainGlobals "_law_near_place" = some (some (.ref f31))) (l31 : K.lookup f31 = some ⟨oc31, od31, .func (PySem.W.fnOf "_law_near_place" "_law_near_place" (defArgs s__law_near_place) (defBody s__law_near_place) (defScope s__law_near_place) .none kV31 dc31 pm31 an31 cd31 ct31), sl31⟩) (c31 : PySem.W.codeIn K cd31 "_law_near_place" = true) (k31 : PySem.W.keepIn K (.ref f31) = true)
    (a32 : PySem.W.nsIn K mainGlobals "_law_levels" = some (some (.ref f32))) (l32 : K.lookup f32 = some ⟨oc32, od32, .func (PySem.W.fnOf "_law_levels" "_law_levels" (defArgs s__law_levels) (defBody s__law_levels) (defScope s__law_levels) .none kV32 dc32 pm32 an32 cd32 ct32), sl32⟩) (c32 : PySem.W.codeIn K cd32 "_law_levels" = true) (k32 : PySem.W.keepIn K (.ref f32) = true)
    (a33 : PySem.W.nsIn K mainGlobals "_law_many" = some (some (.ref f33))) (l33 : K.lookup f33 = some ⟨oc33, od33, .func (PySem.W.fnOf "_law_many" "_law_many" (defArgs s__law_many) (defBody s__law_many) (defScope s__law_many) .none kV33 dc33 pm33 an33 cd33 ct33), sl33⟩) (c33 : PySem.W.codeIn K cd33 "_law_many" = true) (k33 : PySem.W.keepIn K (.ref f33) = true)
    (a34 : PySem.W.nsIn K mainGlobals "_law_added" = some (some (.ref f34))) (l34 : K.lookup f34 = some ⟨oc34, od34, .func (PySem.W.fnOf "_law_added" "_law_added" (defArgs s__law_added) (defBody s__law_added) (defScope s__law_added) .none kV34 dc34 pm34 an34 cd34 ct34), sl34⟩) (c34 : PySem.W.codeIn K cd34 "_law_added" = true) (k34 : PySem.W.keepIn K (.ref f34) = true)
    (a35 : PySem.W.nsIn K mainGlobals "_law_many_beyond" = some (some (.ref f35))) (l35 : K.lookup f35 = some ⟨oc35, od35, .func (PySem.W.fnOf "_law_many_beyond" "_law_many_beyond" (defArgs s__law_many_beyond) (defBody s__law_many_beyond) (defScope s__law_many_beyond) .none kV35 dc35 pm35 an35 cd35 ct35), sl35⟩) (c35 : PySem.W.codeIn K cd35 "_law_many_beyond" = true) (k35 : PySem.W.keepIn K (.ref f35) = true)
    (a36 : PySem.W.nsIn K mainGlobals "_law_many_inner" = some (some (.ref f36))) (l36 : K.lookup f36 = some ⟨oc36, od36, .func (PySem.W.fnOf "_law_many_inner" "_law_many_inner" (defArgs s__law_many_inner) (defBody s__law_many_inner) (defScope s__law_many_inner) .none kV36 dc36 pm36 an36 cd36 ct36), sl36⟩) (c36 : PySem.W.codeIn K cd36 "_law_many_inner" = true) (k36 : PySem.W.keepIn K (.ref f36) = true)
    (a37 : PySem.W.nsIn K mainGlobals "law" = some (some (.ref f37))) (l37 : K.lookup f37 = some ⟨oc37, od37, .func (PySem.W.fnOf "law" "law" (defArgs s_law) (defBody s_law) (defScope s_law) .none kV37 dc37 pm37 an37 cd37 ct37), sl37⟩) (c37 : PySem.W.codeIn K cd37 "law" = true) (k37 : PySem.W.keepIn K (.ref f37) = true)
    (z1 : PySem.W.nsIn K mainGlobals "abs" = some none)
    (z2 : PySem.W.nsIn K mainGlobals "all" = some none)
    (z3 : PySem.W.nsIn K mainGlobals "any" = some none)
    (z4 : PySem.W.nsIn K mainGlobals "bool" = some none)
    (z5 : PySem.W.nsIn K mainGlobals "int" = some none)
    (z6 : PySem.W.nsIn K mainGlobals "isinstance" = some none)
    (z7 : PySem.W.nsIn K mainGlobals "len" = some none)
    (z8 : PySem.W.nsIn K mainGlobals "list" = some none)
    (z9 : PySem.W.nsIn K mainGlobals "range" = some none)
    (z10 : PySem.W.nsIn K mainGlobals "repr" = some none)
    (z11 : PySem.W.nsIn K mainGlobals "str" = some none)
    (z12 : PySem.W.nsIn K mainGlobals "sum" = some none)
    (z13 : PySem.W.nsIn K mainGlobals "tuple" = some none)
    (z14 : PySem.W.nsIn K mainGlobals "zip" = some none)
    (r6 : ((recsOf q).any fun e => e.name == "_tell_a_part") = true) (s6 : (K.lookup t6).isSome = true) (n6 : K.lookup (tabO K t6) = none)
    (r13 : ((recsOf q).any fun e => e.name == "count") = true) (s13 : (K.lookup t13).isSome = true) (n13 : K.lookup (tabO K t13) = none) :
    ∃ (cs : List (Addr × Addr)) (fd : FuncData), TabsAt K h cs ∧ (∀ (s : Shared) (v : Value), BindsTo s fd ⟨[v], []⟩ [("_law_script", v)]) ∧ ∀ base : Heap, K.In base → base.Ns mainGlobals mg → (∀ p ∈ cs, GxR.TabB base mg p.1 p.2) → FnG l.prog w K mg base CX0 60 fa fd ["_law_script"] (@spLaw ⟨cs.map (·.2)⟩ K) := by
  letI : Tb := ⟨List.map (fun p : Addr × Addr => p.2) ([(t6, tabO K t6), (t13, tabO K t13)] : List (Addr × Addr))⟩
  have e := hfa.symm.trans (PySem.W.mg_of X G a37)
  cases e
  have F1 := fun_mk (st := s_is_number) l1 c1 k1
  have F2 := fun_mk (st := s_inner_first) l2 c2 k2
  have F3 := fun_mk (st := s_parts_of) l3 c3 k3
  have F4 := fun_mk (st := s_part_at) l4 c4 k4
  have F5 := fun_mk (st := s__numbers_at) l5 c5 k5
  have F6 := fun_mk (st := s__tell_a_part) l6 c6 k6
  have F7 := fun_mk (st := s_way_to) l7 c7 k7
  have F8 := fun_mk (st := s_parting) l8 c8 k8
  have F9 := fun_mk (st := s_comes_ahead) l9 c9 k9
  have F10 := fun_mk (st := s__met_first) l10 c10 k10
  have F11 := fun_mk (st := s_next_place) l11 c11 k11
  have F12 := fun_mk (st := s__neighbour) l12 c12 k12
  have F13 := fun_mk (st := s_count) l13 c13 k13
  have F14 := fun_mk (st := s_laid) l14 c14 k14
  have F15 := fun_mk (st := s_laid_of) l15 c15 k15
  have F16 := fun_mk (st := s_ahead) l16 c16 k16
  have F17 := fun_mk (st := s_behind) l17 c17 k17
  have F18 := fun_mk (st := s__parts_ahead) l18 c18 k18
  have F19 := fun_mk (st := s__parts_behind) l19 c19 k19
  have F20 := fun_mk (st := s_between) l20 c20 k20
  have F21 := fun_mk (st := s__parts_between) l21 c21 k21
  have F22 := fun_mk (st := s_many_between) l22 c22 k22
  have F23 := fun_mk (st := s_are_near) l23 c23 k23
  have F24 := fun_mk (st := s__law_open_cells) l24 c24 k24
  have F25 := fun_mk (st := s__law_pick) l25 c25 k25
  have F26 := fun_mk (st := s__law_draw_row) l26 c26 k26
  have F27 := fun_mk (st := s__law_few) l27 c27 k27
  have F28 := fun_mk (st := s__law_size) l28 c28 k28
  have F29 := fun_mk (st := s__law_copy) l29 c29 k29
  have F30 := fun_mk (st := s__law_draw_address) l30 c30 k30
  have F31 := fun_mk (st := s__law_near_place) l31 c31 k31
  have F32 := fun_mk (st := s__law_levels) l32 c32 k32
  have F33 := fun_mk (st := s__law_many) l33 c33 k33
  have F34 := fun_mk (st := s__law_added) l34 c34 k34
  have F35 := fun_mk (st := s__law_many_beyond) l35 c35 k35
  have F36 := fun_mk (st := s__law_many_inner) l36 c36 k36
  have F37 := fun_mk (st := s_law) l37 c37 k37
  have b1 := F1.binds (ps := ["value"]) fun _ _ _ _ _ _ us hl => match us, hl with | [_], _ => rfl
  have C1 : Cal K mg "is_number" f1 _ ["value"] := ⟨PySem.W.mg_of X G a1, k1, b1⟩
  have b2 := F2.binds (ps := ["whole", "parts_of"]) fun _ _ _ _ _ _ us hl => match us, hl with | [_, _], _ => rfl
  have C2 : Cal K mg "inner_first" f2 _ ["whole", "parts_of"] := ⟨PySem.W.mg_of X G a2, k2, b2⟩
  have b3 := F3.binds (ps := ["row"]) fun _ _ _ _ _ _ us hl => match us, hl with | [_], _ => rfl
  have C3 : Cal K mg "parts_of" f3 _ ["row"] := ⟨PySem.W.mg_of X G a3, k3, b3⟩
  have b4 := F4.binds (ps := ["dealing", "numbers"]) fun _ _ _ _ _ _ us hl => match us, hl with | [_, _], _ => rfl
  have C4 : Cal K mg "part_at" f4 _ ["dealing", "numbers"] := ⟨PySem.W.mg_of X G a4, k4, b4⟩
  have b5 := F5.binds (ps := ["dealing", "place", "at"]) fun _ _ _ _ _ _ us hl => match us, hl with | [_, _, _], _ => rfl
  have C5 : Cal K mg "_numbers_at" f5 _ ["dealing", "place", "at"] := ⟨PySem.W.mg_of X G a5, k5, b5⟩
  have b6 := F6.binds (ps := ["dealing", "numbers"]) fun _ _ _ _ _ _ us hl => match us, hl with | [_, _], _ => rfl
  have C6 : Cal K mg "_tell_a_part" f6 _ ["dealing", "numbers"] := ⟨PySem.W.mg_of X G a6, k6, b6⟩
  have b7 := F7.binds (ps := ["row", "place"]) fun _ _ _ _ _ _ us hl => match us, hl with | [_, _], _ => rfl
  have C7 : Cal K mg "way_to" f7 _ ["row", "place"] := ⟨PySem.W.mg_of X G a7, k7, b7⟩
  have b8 := F8.binds (ps := ["row", "one", "other"]) fun _ _ _ _ _ _ us hl => match us, hl with | [_, _, _], _ => rfl
  have C8 : Cal K mg "parting" f8 _ ["row", "one", "other"] := ⟨PySem.W.mg_of X G a8, k8, b8⟩
  have b9 := F9.binds (ps := ["row", "one", "other"]) fun _ _ _ _ _ _ us hl => match us, hl with | [_, _, _], _ => rfl
  have C9 : Cal K mg "comes_ahead" f9 _ ["row", "one", "other"] := ⟨PySem.W.mg_of X G a9, k9, b9⟩
  have b10 := F10.binds (ps := ["row", "side"]) fun _ _ _ _ _ _ us hl => match us, hl with | [_, _], _ => rfl
  have C10 : Cal K mg "_met_first" f10 _ ["row", "side"] := ⟨PySem.W.mg_of X G a10, k10, b10⟩
  have b11 := F11.binds (ps := ["row", "place"]) fun _ _ _ _ _ _ us hl => match us, hl with | [_, _], _ => rfl
  have C11 : Cal K mg "next_place" f11 _ ["row", "place"] := ⟨PySem.W.mg_of X G a11, k11, b11⟩
  have b12 := F12.binds (ps := ["row", "place", "side"]) fun _ _ _ _ _ _ us hl => match us, hl with | [_, _, _], _ => rfl
  have C12 : Cal K mg "_neighbour" f12 _ ["row", "place", "side"] := ⟨PySem.W.mg_of X G a12, k12, b12⟩
  have b13 := F13.binds (ps := ["row"]) fun _ _ _ _ _ _ us hl => match us, hl with | [_], _ => rfl
  have C13 : Cal K mg "count" f13 _ ["row"] := ⟨PySem.W.mg_of X G a13, k13, b13⟩
  have b14 := F14.binds (ps := ["rows"]) fun _ _ _ _ _ _ us hl => match us, hl with | [_], _ => rfl
  have C14 : Cal K mg "laid" f14 _ ["rows"] := ⟨PySem.W.mg_of X G a14, k14, b14⟩
  have b15 := F15.binds (ps := ["rows"]) fun _ _ _ _ _ _ us hl => match us, hl with | [_], _ => rfl
  have C15 : Cal K mg "laid_of" f15 _ ["rows"] := ⟨PySem.W.mg_of X G a15, k15, b15⟩
  have b16 := F16.binds (ps := ["row", "place"]) fun _ _ _ _ _ _ us hl => match us, hl with | [_, _], _ => rfl
  have C16 : Cal K mg "ahead" f16 _ ["row", "place"] := ⟨PySem.W.mg_of X G a16, k16, b16⟩
  have b17 := F17.binds (ps := ["row", "place"]) fun _ _ _ _ _ _ us hl => match us, hl with | [_, _], _ => rfl
  have C17 : Cal K mg "behind" f17 _ ["row", "place"] := ⟨PySem.W.mg_of X G a17, k17, b17⟩
  have b18 := F18.binds (ps := ["dealing", "k"]) fun _ _ _ _ _ _ us hl => match us, hl with | [_, _], _ => rfl
  have C18 : Cal K mg "_parts_ahead" f18 _ ["dealing", "k"] := ⟨PySem.W.mg_of X G a18, k18, b18⟩
  have b19 := F19.binds (ps := ["dealing", "k"]) fun _ _ _ _ _ _ us hl => match us, hl with | [_, _], _ => rfl
  have C19 : Cal K mg "_parts_behind" f19 _ ["dealing", "k"] := ⟨PySem.W.mg_of X G a19, k19, b19⟩
  have b20 := F20.binds (ps := ["row", "one", "other"]) fun _ _ _ _ _ _ us hl => match us, hl with | [_, _, _], _ => rfl
  have C20 : Cal K mg "between" f20 _ ["row", "one", "other"] := ⟨PySem.W.mg_of X G a20, k20, b20⟩
  have b21 := F21.binds (ps := ["dealing", "k", "j"]) fun _ _ _ _ _ _ us hl => match us, hl with | [_, _, _], _ => rfl
  have C21 : Cal K mg "_parts_between" f21 _ ["dealing", "k", "j"] := ⟨PySem.W.mg_of X G a21, k21, b21⟩
  have b22 := F22.binds (ps := ["row", "one", "other"]) fun _ _ _ _ _ _ us hl => match us, hl with | [_, _, _], _ => rfl
  have C22 : Cal K mg "many_between" f22 _ ["row", "one", "other"] := ⟨PySem.W.mg_of X G a22, k22, b22⟩
  have b23 := F23.binds (ps := ["row", "one", "other"]) fun _ _ _ _ _ _ us hl => match us, hl with | [_, _, _], _ => rfl
  have C23 : Cal K mg "are_near" f23 _ ["row", "one", "other"] := ⟨PySem.W.mg_of X G a23, k23, b23⟩
  have b24 := F24.binds (ps := ["_law_script"]) fun _ _ _ _ _ _ us hl => match us, hl with | [_], _ => rfl
  have C24 : Cal K mg "_law_open_cells" f24 _ ["_law_script"] := ⟨PySem.W.mg_of X G a24, k24, b24⟩
  have b25 := F25.binds (ps := ["_law_source", "_law_most"]) fun _ _ _ _ _ _ us hl => match us, hl with | [_, _], _ => rfl
  have C25 : Cal K mg "_law_pick" f25 _ ["_law_source", "_law_most"] := ⟨PySem.W.mg_of X G a25, k25, b25⟩
  have b26 := F26.binds (ps := ["_law_source", "_law_letters", "_law_most"]) fun _ _ _ _ _ _ us hl => match us, hl with | [_, _, _], _ => rfl
  have C26 : Cal K mg "_law_draw_row" f26 _ ["_law_source", "_law_letters", "_law_most"] := ⟨PySem.W.mg_of X G a26, k26, b26⟩
  have b27 := F27.binds (ps := ["_law_source", "_law_most"]) fun _ _ _ _ _ _ us hl => match us, hl with | [_, _], _ => rfl
  have C27 : Cal K mg "_law_few" f27 _ ["_law_source", "_law_most"] := ⟨PySem.W.mg_of X G a27, k27, b27⟩
  have b28 := F28.binds (ps := ["_law_row"]) fun _ _ _ _ _ _ us hl => match us, hl with | [_], _ => rfl
  have C28 : Cal K mg "_law_size" f28 _ ["_law_row"] := ⟨PySem.W.mg_of X G a28, k28, b28⟩
  have b29 := F29.binds (ps := ["_law_row", "_law_numbers"]) fun _ _ _ _ _ _ us hl => match us, hl with | [_, _], _ => rfl
  have C29 : Cal K mg "_law_copy" f29 _ ["_law_row", "_law_numbers"] := ⟨PySem.W.mg_of X G a29, k29, b29⟩
  have b30 := F30.binds (ps := ["_law_source", "_law_row"]) fun _ _ _ _ _ _ us hl => match us, hl with | [_, _], _ => rfl
  have C30 : Cal K mg "_law_draw_address" f30 _ ["_law_source", "_law_row"] := ⟨PySem.W.mg_of X G a30, k30, b30⟩
  have b31 := F31.binds (ps := ["_law_source", "_law_row", "_law_place"]) fun _ _ _ _ _ _ us hl => match us, hl with | [_, _, _], _ => rfl
  have C31 : Cal K mg "_law_near_place" f31 _ ["_law_source", "_law_row", "_law_place"] := ⟨PySem.W.mg_of X G a31, k31, b31⟩
  have b32 := F32.binds (ps := ["_law_row", "_law_place"]) fun _ _ _ _ _ _ us hl => match us, hl with | [_, _], _ => rfl
  have C32 : Cal K mg "_law_levels" f32 _ ["_law_row", "_law_place"] := ⟨PySem.W.mg_of X G a32, k32, b32⟩
  have b33 := F33.binds (ps := ["_law_row"]) fun _ _ _ _ _ _ us hl => match us, hl with | [_], _ => rfl
  have C33 : Cal K mg "_law_many" f33 _ ["_law_row"] := ⟨PySem.W.mg_of X G a33, k33, b33⟩
  have b34 := F34.binds (ps := ["_law_numbers"]) fun _ _ _ _ _ _ us hl => match us, hl with | [_], _ => rfl
  have C34 : Cal K mg "_law_added" f34 _ ["_law_numbers"] := ⟨PySem.W.mg_of X G a34, k34, b34⟩
  have b35 := F35.binds (ps := ["_law_row", "_law_place", "_law_side"]) fun _ _ _ _ _ _ us hl => match us, hl with | [_, _, _], _ => rfl
  have C35 : Cal K mg "_law_many_beyond" f35 _ ["_law_row", "_law_place", "_law_side"] := ⟨PySem.W.mg_of X G a35, k35, b35⟩
  have b36 := F36.binds (ps := ["_law_row", "_law_one", "_law_other"]) fun _ _ _ _ _ _ us hl => match us, hl with | [_, _, _], _ => rfl
  have C36 : Cal K mg "_law_many_inner" f36 _ ["_law_row", "_law_one", "_law_other"] := ⟨PySem.W.mg_of X G a36, k36, b36⟩
  have w6 := own_at (qual := "_tell_a_part") (st := s__tell_a_part) W X r6 (PySem.W.mg_of X G a6) l6 rfl rfl s6
  have w13 := own_at (qual := "count") (st := s_count) W X r13 (PySem.W.mg_of X G a13) l13 rfl rfl s13
  refine ⟨[(t6, tabO K t6), (t13, tabO K t13)], PySem.W.fnOf "law" "law" (defArgs s_law) (defBody s_law) (defScope s_law) .none kV37 dc37 pm37 an37 cd37 ct37, ⟨?_, ?_, ?_⟩, fun s v => .of_eq rfl, fun base _ _ TB => ?_⟩
  · exact fun p m => by
      rcases List.mem_cons.mp m with rfl | m
      · exact w6.1
      rcases List.mem_cons.mp m with rfl | m
      · exact w13.1
      cases m
  · exact fun p m => by
      rcases List.mem_cons.mp m with rfl | m
      · exact n6
      rcases List.mem_cons.mp m with rfl | m
      · exact n13
      cases m
  · exact fun p m => by
      rcases List.mem_cons.mp m with rfl | m
      · exact w6.2
      rcases List.mem_cons.mp m with rfl | m
      · exact w13.2
      cases m
  let T : Top K mg base := { f_is_number := _, d_is_number := _, F_is_number := F1, C_is_number := C1, f_inner_first := _, d_inner_first := _, F_inner_first := F2, C_inner_first := C2, f_parts_of := _, d_parts_of := _, F_parts_of := F3, C_parts_of := C3, f_part_at := _, d_part_at := _, F_part_at := F4, C_part_at := C4, f__numbers_at := _, d__numbers_at := _, F__numbers_at := F5, C__numbers_at := C5, f__tell_a_part := _, d__tell_a_part := _, F__tell_a_part := F6, C__tell_a_part := C6, t__tell_a_part := t6, p__tell_a_part := tabO K t6, G__tell_a_part := ⟨rfl, TB (t6, tabO K t6) List.mem_cons_self, List.mem_cons_self⟩, f_way_to := _, d_way_to := _, F_way_to := F7, C_way_to := C7, f_parting := _, d_parting := _, F_parting := F8, C_parting := C8, f_comes_ahead := _, d_comes_ahead := _, F_comes_ahead := F9, C_comes_ahead := C9, f__met_first := _, d__met_first := _, F__met_first := F10, C__met_first := C10, f_next_place := _, d_next_place := _, F_next_place := F11, C_next_place := C11, f__neighbour := _, d__neighbour := _, F__neighbour := F12, C__neighbour := C12, f_count := _, d_count := _, F_count := F13, C_count := C13, t_count := t13, p_count := tabO K t13, G_count := ⟨rfl, TB (t13, tabO K t13) (List.mem_cons_of_mem _ List.mem_cons_self), (List.mem_cons_of_mem _ List.mem_cons_self)⟩, f_laid := _, d_laid := _, F_laid := F14, C_laid := C14, f_laid_of := _, d_laid_of := _, F_laid_of := F15, C_laid_of := C15, f_ahead := _, d_ahead := _, F_ahead := F16, C_ahead := C16, f_behind := _, d_behind := _, F_behind := F17, C_behind := C17, f__parts_ahead := _, d__parts_ahead := _, F__parts_ahead := F18, C__parts_ahead := C18, f__parts_behind := _, d__parts_behind := _, F__parts_behind := F19, C__parts_behind := C19, f_between := _, d_between := _, F_between := F20, C_between := C20, f__parts_between := _, d__parts_between := _, F__parts_between := F21, C__parts_between := C21, f_many_between := _, d_many_between := _, F_many_between := F22, C_many_between := C22, f_are_near := _, d_are_near := _, F_are_near := F23, C_are_near := C23, f__law_open_cells := _, d__law_open_cells := _, F__law_open_cells := F24, C__law_open_cells := C24, f__law_pick := _, d__law_pick := _, F__law_pick := F25, C__law_pick := C25, f__law_draw_row := _, d__law_draw_row := _, F__law_draw_row := F26, C__law_draw_row := C26, f__law_few := _, d__law_few := _, F__law_few := F27, C__law_few := C27, f__law_size := _, d__law_size := _, F__law_size := F28, C__law_size := C28, f__law_copy := _, d__law_copy := _, F__law_copy := F29, C__law_copy := C29, f__law_draw_address := _, d__law_draw_address := _, F__law_draw_address := F30, C__law_draw_address := C30, f__law_near_place := _, d__law_near_place := _, F__law_near_place := F31, C__law_near_place := C31, f__law_levels := _, d__law_levels := _, F__law_levels := F32, C__law_levels := C32, f__law_many := _, d__law_many := _, F__law_many := F33, C__law_many := C33, f__law_added := _, d__law_added := _, F__law_added := F34, C__law_added := C34, f__law_many_beyond := _, d__law_many_beyond := _, F__law_many_beyond := F35, C__law_many_beyond := C35, f__law_many_inner := _, d__law_many_inner := _, F__law_many_inner := F36, C__law_many_inner := C36, f_law := _, d_law := _, F_law := F37, b_abs := PySem.W.mg_none_of X G z1, b_all := PySem.W.mg_none_of X G z2, b_any := PySem.W.mg_none_of X G z3, b_bool := PySem.W.mg_none_of X G z4, b_int := PySem.W.mg_none_of X G z5, b_isinstance := PySem.W.mg_none_of X G z6, b_len := PySem.W.mg_none_of X G z7, b_list := PySem.W.mg_none_of X G z8, b_range := PySem.W.mg_none_of X G z9, b_repr := PySem.W.mg_none_of X G z10, b_str := PySem.W.mg_none_of X G z11, b_sum := PySem.W.mg_none_of X G z12, b_tuple := PySem.W.mg_none_of X G z13, b_zip := PySem.W.mg_none_of X G z14 }
  exact ok_law T
theorem walk {l : PySem.W.OpenLaw} {q : Program} {loose : List Str} {XP : (Str → Option Value) → Heap → Prop} {YP : World → Heap → Prop} {d : DefRec} {K : Params → PySem.W.Frag} (hn : l.most = some 63) (hdf : d.params.defaults = [])
    (hY : ∀ (w : World) (h : Heap), YP w h → (K w.params).In h)
    (F : ∀ (w : World) (mg : Str → Option Value) (fa : Addr) (h : Heap), (K w.params).In h → h.Ns mainGlobals mg → mg d.name = some (.ref fa) → OwnT q mg h →
      ∃ (cs : List (Addr × Addr)) (fd : FuncData), TabsAt (K w.params) h cs ∧ (∀ (s : Shared) (u : Value), BindsTo s fd ⟨[u], []⟩ [("_law_script", u)]) ∧
        ∀ base : Heap, (K w.params).In base → base.Ns mainGlobals mg → (∀ p ∈ cs, GxR.TabB base mg p.1 p.2) → FnG l.prog w (K w.params) mg base CX0 60 fa fd ["_law_script"] (@spLaw ⟨cs.map (·.2)⟩ (K w.params))) :
    PySem.W.WalkO q loose XP YP l.row.toRowW d [] (fun f vs => PySem.call f vs) :=
  walkT (k := 60) hn hdf ⟨⟨rfl, by decide, by decide⟩, rfl⟩ hY F
end K17
open PySem PySem.W PyProof.Rows
set_option maxRecDepth 100000 in
set_option maxHeartbeats 0 in
theorem PySem.Challenge.cw_everrows_k17_how_many_holds : PySem.Challenge.rw_everrows_k17_how_many.Holds := by
  w_on; o_law; k_head; (case hw => w_witness2)
  k_fill
  refine K17.walk (l := PySem.Challenge.rw_everrows_k17_how_many) rfl rfl (fun w h Y => PySem.W.kIn_of Y) ?F
  case F =>
    intro w mg fa h KX G hmg W
    refine' K17.all_mk KX G hmg W ?a1 ?l1 ?c1 ?k1 ?a2 ?l2 ?c2 ?k2 ?a3 ?l3 ?c3 ?k3 ?a4 ?l4 ?c4 ?k4 ?a5 ?l5 ?c5 ?k5 ?a6 ?l6 ?c6 ?k6 ?a7 ?l7 ?c7 ?k7 ?a8 ?l8 ?c8 ?k8 ?a9 ?l9 ?c9 ?k9 ?a10 ?l10 ?c10 ?k10 ?a11 ?l11 ?c11 ?k11 ?a12 ?l12 ?c12 ?k12 ?a13 ?l13 ?c13 ?k13 ?a14 ?l14 ?c14 ?k14 ?a15 ?l15 ?c15 ?k15 ?a16 ?l16 ?c16 ?k16 ?a17 ?l17 ?c17 ?k17 ?a18 ?l18 ?c18 ?k18 ?a19 ?l19 ?c19 ?k19 ?a20 ?l20 ?c20 ?k20 ?a21 ?l21 ?c21 ?k21 ?a22 ?l22 ?c22 ?k22 ?a23 ?l23 ?c23 ?k23 ?a24 ?l24 ?c24 ?k24 ?a25 ?l25 ?c25 ?k25 ?a26 ?l26 ?c26 ?k26 ?a27 ?l27 ?c27 ?k27 ?a28 ?l28 ?c28 ?k28 ?a29 ?l29 ?c29 ?k29 ?a30 ?l30 ?c30 ?k30 ?a31 ?l31 ?c31 ?k31 ?a32 ?l32 ?c32 ?k32 ?a33 ?l33 ?c33 ?k33 ?a34 ?l34 ?c34 ?k34 ?a35 ?l35 ?c35 ?k35 ?a36 ?l36 ?c36 ?k36 ?a37 ?l37 ?c37 ?k37 ?z1 ?z2 ?z3 ?z4 ?z5 ?z6 ?z7 ?z8 ?z9 ?z10 ?z11 ?z12 ?z13 ?z14 ?r6 ?s6 ?n6 ?r13 ?s13 ?n13
    (case a1 => k_is); (case l1 => k_is); (case c1 => k_is); (case k1 => k_is)
    (case a2 => k_is); (case l2 => k_is); (case c2 => k_is); (case k2 => k_is)
    (case a3 => k_is); (case l3 => k_is); (case c3 => k_is); (case k3 => k_is)
    (case a4 => k_is); (case l4 => k_is); (case c4 => k_is); (case k4 => k_is)
    (case a5 => k_is); (case l5 => k_is); (case c5 => k_is); (case k5 => k_is)
    (case a6 => k_is); (case l6 => k_is); (case c6 => k_is); (case k6 => k_is)
    (case a7 => k_is); (case l7 => k_is); (case c7 => k_is); (case k7 => k_is)
    (case a8 => k_is); (case l8 => k_is); (case c8 => k_is); (case k8 => k_is)
    (case a9 => k_is); (case l9 => k_is); (case c9 => k_is); (case k9 => k_is)
    (case a10 => k_is); (case l10 => k_is); (case c10 => k_is); (case k10 => k_is)
    (case a11 => k_is); (case l11 => k_is); (case c11 => k_is); (case k11 => k_is)
    (case a12 => k_is); (case l12 => k_is); (case c12 => k_is); (case k12 => k_is)
    (case a13 => k_is); (case l13 => k_is); (case c13 => k_is); (case k13 => k_is)
    (case a14 => k_is); (case l14 => k_is); (case c14 => k_is); (case k14 => k_is)
    (case a15 => k_is); (case l15 => k_is); (case c15 => k_is); (case k15 => k_is)
    (case a16 => k_is); (case l16 => k_is); (case c16 => k_is); (case k16 => k_is)
    (case a17 => k_is); (case l17 => k_is); (case c17 => k_is); (case k17 => k_is)
    (case a18 => k_is); (case l18 => k_is); (case c18 => k_is); (case k18 => k_is)
    (case a19 => k_is); (case l19 => k_is); (case c19 => k_is); (case k19 => k_is)
    (case a20 => k_is); (case l20 => k_is); (case c20 => k_is); (case k20 => k_is)
    (case a21 => k_is); (case l21 => k_is); (case c21 => k_is); (case k21 => k_is)
    (case a22 => k_is); (case l22 => k_is); (case c22 => k_is); (case k22 => k_is)
    (case a23 => k_is); (case l23 => k_is); (case c23 => k_is); (case k23 => k_is)
    (case a24 => k_is); (case l24 => k_is); (case c24 => k_is); (case k24 => k_is)
    (case a25 => k_is); (case l25 => k_is); (case c25 => k_is); (case k25 => k_is)
    (case a26 => k_is); (case l26 => k_is); (case c26 => k_is); (case k26 => k_is)
    (case a27 => k_is); (case l27 => k_is); (case c27 => k_is); (case k27 => k_is)
    (case a28 => k_is); (case l28 => k_is); (case c28 => k_is); (case k28 => k_is)
    (case a29 => k_is); (case l29 => k_is); (case c29 => k_is); (case k29 => k_is)
    (case a30 => k_is); (case l30 => k_is); (case c30 => k_is); (case k30 => k_is)
    (case a31 => k_is); (case l31 => k_is); (case c31 => k_is); (case k31 => k_is)
    (case a32 => k_is); (case l32 => k_is); (case c32 => k_is); (case k32 => k_is)
    (case a33 => k_is); (case l33 => k_is); (case c33 => k_is); (case k33 => k_is)
    (case a34 => k_is); (case l34 => k_is); (case c34 => k_is); (case k34 => k_is)
    (case a35 => k_is); (case l35 => k_is); (case c35 => k_is); (case k35 => k_is)
    (case a36 => k_is); (case l36 => k_is); (case c36 => k_is); (case k36 => k_is)
    (case a37 => k_is); (case l37 => k_is); (case c37 => k_is); (case k37 => k_is)
    (case z1 => k_is); (case z2 => k_is); (case z3 => k_is); (case z4 => k_is); (case z5 => k_is); (case z6 => k_is); (case z7 => k_is); (case z8 => k_is); (case z9 => k_is); (case z10 => k_is); (case z11 => k_is); (case z12 => k_is); (case z13 => k_is); (case z14 => k_is)
    (case r6 => decide +kernel); (case s6 => exact (rfl : _ = true)); (case n6 => exact (rfl : _ = none))
    (case r13 => decide +kernel); (case s13 => exact (rfl : _ = true)); (case n13 => exact (rfl : _ = none))
