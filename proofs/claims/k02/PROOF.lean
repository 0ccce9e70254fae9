import PyProof.Rows.All
import Wide.All
import OpenK.AllK
import Wide.FinOn
import HandS.ForMost
import HandS.EndBits
import HandS.CallLocal
import HandS.Wide
import HandS.Deep
import PyProof.ReprRoads
import HandS.TupAny
import HandS.TupMul
import HandS.Conv
import HandS.Iter
import HandS.Zip
import HandS.AnyAll
import HandS.Style
import HandS.IsInst
import HandS.Codes
import HandS.Ends
import PyProof.ListStr
import HandS.Star
import HandS.EndTab
import KE.KIsAll
import HandS.Spec
import HandS.WideBits
import HandS.SetFor
import HandS.Strs
import HandS.NoneIn
import HandS.DictComp
import KE.KDictWalk
import PyProof.EqKinds
import KE.KEqDict
import KE.DataEq
import PyProof.StrOps2
import KE.GoesZip
import KE.GoesMore
import HandS.Nested
import HandS.GenList
import PyProof.StrLawsRepr
import HandS.SetTxt0
import HandS.SetBool
import PyProof.Rows.SortShellAny
import KE.KDictPairs
import KE.KDictZip
import KE.KItemsList
import HandS.ListItems
import HandS.Exc
import HandS.TryOnly
import HandS.ExcOwn
import HandS.CallSlots
import HandS.TupSets
import KE.DataMinMax
import HandS.Text
import HandS.TupLe
import HandS.SortKw
import PySem.Challenge.RW_everrows_k02_sizes_depths_letters
set_option Elab.async false
set_option linter.all false
set_option maxRecDepth 100000
set_option maxHeartbeats 4000000
namespace DL
open PySem PySem.Spec PyProof.Rows L2
/-- room for calls, and no text of an object is being made -/
structure RmG (k : Nat) (A : Around) : Prop where
  rm : Room k A
  gd : A.guards = some []
theorem RmG.mono {j k : Nat} {A : Around} (r : RmG k A) (h : j ≤ k) : RmG j A := ⟨r.rm.mono h, r.gd⟩
structure FnG (P : Program) (w : World) (K : PySem.W.Frag) (mg : Str → Option Value) (base : Heap) (CX : CXT)
    (k : Nat) (f : Addr) (fd : FuncData) (ps : List Str) (sp : Sp) : Prop where
  len : ∀ vs H Q E, sp vs H Q E → vs.length = ps.length
  run : ∀ (A : Around) (outer : List Env) (s : Shared) (H : Hp) (args : Args) (us : List Value) (vs : List V) (Q : VK) (E : XK),
    RmG k A → Env0 P w K mg base A outer s H → BindsTo s fd args (ps.zip us) → Vals vs us → sp vs H Q E →
      codeAny (model P w) A (.call (.ref f) args) (CR CX outer P w H s Q E) s
section
variable {P : Program} {w : World} {K : PySem.W.Frag} {mg : Str → Option Value} {base : Heap} {CX : CXT}
theorem FnG.mono {j k : Nat} {f : Addr} {fd : FuncData} {ps : List Str} {sp : Sp} (F : FnG P w K mg base CX j f fd ps sp)
    (h : j ≤ k) : FnG P w K mg base CX k f fd ps sp :=
  ⟨F.len, fun A o s H a us vs Q E r => F.run A o s H a us vs Q E (r.mono h)⟩
theorem FnG.imp {k : Nat} {f : Addr} {fd : FuncData} {ps : List Str} {sp sp' : Sp} (F : FnG P w K mg base CX k f fd ps sp)
    (h : ∀ vs H Q E, sp' vs H Q E → sp vs H Q E) : FnG P w K mg base CX k f fd ps sp' :=
  ⟨fun vs H Q E q => F.len vs H Q E (h _ _ _ _ q),
   fun A o s H a us vs Q E hr he hb hv hs => F.run A o s H a us vs Q E hr he hb hv (h _ _ _ _ hs)⟩
theorem FnG.of {k : Nat} {f : Addr} {fd : FuncData} {ps : List Str} {sp : Sp} (F : FnOk P w K mg base CX k f fd ps sp) :
    FnG P w K mg base CX k f fd ps sp := ⟨F.len, fun A o s H a us vs Q E r => F.run A o s H a us vs Q E r.rm⟩
/-- a def by its body -/
theorem fn_bodyC {k : Nat} {x qual : Str} {st : Stmt} {f : Addr} {fd : FuncData} {N ps : List Str} {sp : Sp}
    (F : Fun K x qual st f fd) (S : FnScope N ps (defScope st)) (len : ∀ vs H Q E, sp vs H Q E → vs.length = ps.length)
    (body : ∀ (cdv : Value), fd.code = cdv → ∀ (A : Around) (outer : List Env) (s : Shared) (H : Hp) (vs : List V) (Q : VK) (E : XK),
      RmG k (A.deeper (envOfC qual (defScope st) s.heap.objs.size f cdv)) → sp vs H Q E →
      ∃ t, PSs (cxOf CX P w K mg base N qual (defScope st) f cdv A outer s H E) (defBody st) t ∧
        t { nx := fun _ H' => Q .non H', rt := Q } (start N vs) H) : FnG P w K mg base CX (k + 1) f fd ps sp := by
  obtain ⟨oc, od, kV, doc, pm, an, cdv, ct, osl, rfl, lk, hcd⟩ := F.ex
  constructor
  · exact len
  intro A outer s H args us vs Q E hr e0 hb r hsp
  have hlen := len _ _ _ _ hsp
  have inK : K.In s.heap := e0.mod.kin.keeps fun b o e => (e0.bs b o e).1
  have lim := e0.mod.nolimit.keeps (h' := s.heap) fun b o e => (e0.bs b o e).1
  have kinds : ∀ y ∈ ps.zip us, (defScope st).names.lookup y.1 = some .local ∨
      ((defScope st).names.lookup y.1 = some .cell ∧
        ((cellsFrom (s.heap.objs.size + 1) (defScope st).names []).lookup y.1).isSome = true) := by
    rintro ⟨n, v⟩ hy
    cases S.par n (List.of_mem_zip hy).1 with
    | inl q => exact .inl q
    | inr q => exact .inr ⟨q, PySem.W.cellsFrom_some _ _ _ (.inl q)⟩
  apply codeAny_call_function hr.rm.depth (inK _ _ lk) rfl S.co S.gen rfl (PySem.W.codeRec_of inK hcd)
  apply hb
  apply wpAny_newFunctionEnv_cells S.kind kinds
  intro env he s1 x
  subst he
  refine ⟨lim.keeps x.toInCall.keep, codeAny_func ?_⟩
  obtain ⟨t, ht, hq⟩ := body cdv rfl A outer s H vs Q E ⟨hr.rm.deeper _, hr.gd⟩ hsp
  have I := inv_start (CX := CX) (E := E) S hr.rm.hd e0 hlen r x
  apply wpAny_mono (ht.run [] s1 (start N vs) H _ I hq)
  · intro fl s' hs
    cases fl with
    | ret u => obtain ⟨v, σ', H', J, rv, q⟩ := hs; exact ⟨v, H', J.os, J.bare, J.base, J.hok, rv, q⟩
    | next => obtain ⟨σ', H', J, q⟩ := hs; exact ⟨V.non, H', J.os, J.bare, J.base, J.hok, rfl, q⟩
    | brk => obtain ⟨_, _, _, q⟩ := hs; exact q.elim
    | cont => obtain ⟨_, _, _, q⟩ := hs; exact q.elim
  · exact fun _ _ hs => hs
theorem fn_body {k : Nat} {x qual : Str} {st : Stmt} {f : Addr} {fd : FuncData} {N ps : List Str} {sp : Sp}
    (F : Fun K x qual st f fd) (S : FnScope N ps (defScope st)) (len : ∀ vs H Q E, sp vs H Q E → vs.length = ps.length)
    (body : ∀ (cdv : Value) (A : Around) (outer : List Env) (s : Shared) (H : Hp) (vs : List V) (Q : VK) (E : XK),
      RmG k (A.deeper (envOfC qual (defScope st) s.heap.objs.size f cdv)) → sp vs H Q E →
      ∃ t, PSs (cxOf CX P w K mg base N qual (defScope st) f cdv A outer s H E) (defBody st) t ∧
        t { nx := fun _ H' => Q .non H', rt := Q } (start N vs) H) : FnG P w K mg base CX (k + 1) f fd ps sp :=
  fn_bodyC F S len fun cdv _ => body cdv
end
section
variable {X : Cx} {CX : CXT} {k : Nat} {f : Addr} {fd : FuncData} {ps : List Str} {sp : Sp} {E : XK} {x : Str} {p pos : Pos} {e : Expr} {es : List Expr} {t : TA}
theorem run_G {pins : List (Addr × Obj)} {σ : L2.St} {H : Hp} {s : Shared} {Q : VK} {us : List Value} {vs : List V}
    (F : FnG X.prog X.w X.K X.mg X.base CX k f fd ps sp) (hr : RmG k X.A) (hb : Binds X.K fd ps []) (hx : Passes CX X E)
    (I : Inv X pins σ H s) (r : Vals vs us) (h : sp vs H Q E) : wpAny (model X.prog X.w) X.A (call (.ref f) us) (EP X pins σ Q) X.xe s := by
  have hl : (us ++ []).length = ps.length := by rw [List.append_nil, ← r.length]; exact F.len _ _ _ _ h
  have hb' := hb s us I.kIn hl
  rw [List.append_nil] at hb'
  apply wpAny_call
  apply codeAny_mono (F.run X.A X.stack s H ⟨us, []⟩ us vs Q E hr I.env0 hb' r h)
  intro r s' hq
  match r, hq with
  | .error e, hq => exact hx pins σ H s e s' I hq
  | .ok (.ret u), hq => exact I.after hq
  | .ok .next, hq => exact hq.elim
  | .ok .brk, hq => exact hq.elim
  | .ok .cont, hq => exact hq.elim
theorem pe_callG (F : FnG X.prog X.w X.K X.mg X.base CX k f fd ps sp) (hr : RmG k X.A) (hg : Gl X x) (hm : X.mg x = some (.ref f))
    (hk : PySem.W.keepIn X.K (.ref f) = true) (hb : Binds X.K fd ps []) (hx : Passes CX X E)
    (ha : PA X (e :: es) t) (hdb : (x == ("__debug__" : Str)) = false := by decide)
    (he : starEach (e :: es) X.env = (false, eval e X.env) :: starEach es X.env := by rfl)
    (hpl : (backTo pos (starEach es X.env)).any (·.1) = false := by rfl) :
    PE X (.Call (.Name x p) (e :: es) [] pos) (fun σ H Q => t σ H fun vs H1 => sp vs H1 Q E) := by
  constructor
  intro pins s σ H Q I h
  apply wpAny_Call_Name_kw
  apply ld_glob I hg hm _ hdb
  apply PySem.W.callWith_K (h₀ := X.base) I.ok.mod.kin hk _ he hpl
  apply thn (ha.run pos pins s σ H _ I h)
  rintro us s1 ⟨vs, H1, I1, r, q⟩
  exact ⟨I1.kIn, run_G F hr hb hx I1 r q⟩
/-- the text of data -/
theorem call_reprD (hg : X.A.guards = some []) (hu : X.A.units + 66 < cLine) : CallR X (.builtin "repr") (fun xs H Q => ∃ x d, xs = [x] ∧ Dp X.K H x d ∧ d.showable = true ∧
    SeqAt.shaped d = true ∧ d.shown.length ≤ sizeLine ∧ Q (.str d.shown) H) := by
  intro pins s σ H xs us Q I r h
  obtain ⟨x, d, rfl, hd, hs, hsh, hsz, q⟩ := h
  obtain ⟨u, rfl, rx⟩ := vals1 r
  have sh : d.canLay0 = true ∧ d.depth ≤ 64 := by
    have h2 : (d.canLay0 && decide (d.depth ≤ 64)) = true := hsh
    rw [Bool.and_eq_true] at h2
    exact ⟨h2.1, of_decide_eq_true h2.2⟩
  have refs : ∀ {a : Addr}, u = .ref a → wpAny (model X.prog X.w) X.A (call (.builtin "repr") [u]) (EP X pins σ Q) X.xe s := by
    rintro a rfl
    obtain ⟨as, r1⟩ := Dp.reads I d x (.ref a) hd rx
    refine repr_of_reads' r1 hs (PyData.noDict_hsm (PyData.hasDict_of_canLay d sh.1)) hg (by omega) (fun _ _ e => e) (fun h' u tk hk => ?_) hsz
    exact ⟨.str d.shown, H, I.kept hk, ⟨u, rfl⟩, q⟩
  cases hd with
  | non => cases rx; exact PySem.P.repr_of_none ⟨.str _, H, I.tok _, ⟨_, rfl⟩, q⟩
  | bl b => cases rx; exact PySem.P.repr_of_bool ⟨.str _, H, I.tok _, ⟨_, rfl⟩, q⟩
  | int i => obtain ⟨t, rfl⟩ := rx; exact PySem.P.repr_of_int (of_decide_eq_true hs) ⟨.str _, H, I.tok _, ⟨_, rfl⟩, q⟩
  | str z => obtain ⟨t, rfl⟩ := rx; exact PySem.P.repr_of_str ⟨.str _, H, I.tok _, ⟨_, rfl⟩, q⟩ hsz
  | lst h1 h2 => exact refs rx
  | tup h1 h2 => exact refs rx
end
end DL
set_option Elab.async false
set_option linter.all false
set_option maxRecDepth 100000
set_option maxHeartbeats 4000000
namespace L2
open PySem PySem.Spec PyProof.Rows
/-- a tuple without a __dict__: a new one, or one of the module -/
def SqN (K : PySem.W.Frag) (H : Hp) (a : Addr) (xs : List V) : Prop :=
  (∃ o : Obj, H a = some (.frz o (.tup xs)) ∧ o.dict = none) ∨
    ∃ (o : Obj) (its : Array Value) (n : Nat), List.lookup a K = some o ∧ o.cls = .type "tuple" ∧ o.dict = none ∧ o.data = .seq its n ∧ its.size ≤ sizeLine ∧ Vals xs its.toList
theorem SqN.sq {K : PySem.W.Frag} {H : Hp} {a : Addr} {xs : List V} (h : SqN K H a xs) : SqT K H a xs := by
  rcases h with ⟨o, h, _⟩ | ⟨o, its, n, h1, h2, _, h3⟩
  · exact .inl (.inr ⟨o, h⟩)
  · exact .inr ⟨o, its, n, h1, h2, h3⟩
theorem SqN.same {K : PySem.W.Frag} {H H' : Hp} {a : Addr} {xs : List V} (e : Same H H') (h : SqN K H a xs) : SqN K H' a xs := by
  rcases h with ⟨o, h, d⟩ | h
  · exact .inl ⟨o, e _ _ h, d⟩
  · exact .inr h
theorem SqN.sqs {K : PySem.W.Frag} {H H' : Hp} {a : Addr} {xs : List V} (e : Same H H') (h : SqN K H a xs) : SqT K H' a xs := (h.same e).sq
/-- what a new tuple asks -/
def NewT (H : Hp) (Q : VK) (xs : List V) : Prop := ∀ (q : Addr) (o : Obj), H q = none → o.dict = none → Q (.ref q) (upd H q (.frz o (.tup xs)))
section
variable {X : Cx} {pins : List (Addr × Obj)} {σ : L2.St} {H : Hp} {s : Shared}
theorem okNew {P : Program} {w : World} {H : Hp} {h : Heap} {a : Addr} {vs : List V} {us : List Value} {o : Obj} (e : h.get? a = some o) (ho : o = { cls := .type "tuple", data := .seq us.toArray }) (r : Vals vs us) (z : vs.length ≤ sizeLine) : ObjOk P w H h a (.frz o (.tup vs)) :=
  ⟨e, z, us, r, o, e, by rw [ho], _, by rw [ho]⟩
/-- a new tuple, laid -/
theorem newT {vs : List V} {us : List Value} {Q : VK} {k : Nat} (I : Inv X pins σ H s) (r : Vals vs us) (z : vs.length ≤ sizeLine) (q : NewT H Q vs) :
    EP X pins σ Q (.ref s.heap.objs.size) { s with heap := s.heap.push { cls := .type "tuple", data := .seq us.toArray }, toks := k } := by
  have hp : H s.heap.objs.size = none := HOk.fresh I.hok (Nat.le_refl _)
  refine ⟨.ref s.heap.objs.size, upd H s.heap.objs.size (.frz { cls := .type "tuple", data := .seq us.toArray } (.tup vs)), Inv.laid I (fun b u e => Heap.get?_push_of_some _ e) (Nat.le_refl _) ?_, rfl, q _ _ hp rfl⟩
  exact okNew (Heap.get?_push_size _ rfl) rfl r z
end
section
variable {X : Cx} {es : List Expr} {e : Expr} {pos p : Pos}
/-- (a, b, ..) -/
def tTupN (t : TA) : TE := fun σ H Q => t σ H fun xs H1 => xs.length ≤ sizeLine ∧ NewT H1 Q xs
theorem pe_tupN {x1} {t : TA} (h : PA X es t) : PE X (.Tuple es x1 pos) (tTupN t) := by
  constructor
  intro pins s σ H Q I hq
  apply wpAny_Tuple_spliced
  apply thn (h.run pos pins s σ H _ I hq)
  rintro us s1 ⟨xs, H1, I1, r, z, q⟩
  exact ⟨by rw [← r.length]; exact z, newT I1 r z q⟩
/-- tuple(a list or a tuple) -/
theorem call_tupleN : CallR X (.type "tuple") (fun xs H Q => ∃ p ys, xs = [.ref p] ∧ ((SqL X.K H p ys ∧ NewT H Q ys) ∨ (SqT X.K H p ys ∧ Q (.ref p) H))) := by
  rintro pins s σ H xs us Q I r ⟨p, ys, rfl, ⟨hq, q⟩ | ⟨hq, q⟩⟩
  · obtain ⟨u, rfl, rx⟩ := vals1 r
    cases rx
    obtain ⟨its, r', pl, hz⟩ := I.list hq
    have hl := r'.length
    exact call_tuple_list pl.isList (fun h' kp => newT (s := { s with heap := h' }) (Inv.kept (t' := s.toks) I kp) r' hz q) (by simp only [List.size_toArray] <;> omega)
  · obtain ⟨u, rfl, rx⟩ := vals1 r
    cases rx
    obtain ⟨its, _, pl, _⟩ := I.tuple hq
    exact call_tuple_same pl ⟨.ref p, H, I, rfl, q⟩
/-- t + u -/
def rCatN (K : PySem.W.Frag) : R2 := fun x y H Q => ∃ a b xs ys, x = .ref a ∧ y = .ref b ∧ SqT K H a xs ∧ SqT K H b ys ∧ xs.length + ys.length ≤ sizeLine ∧
  (xs = [] → Q (.ref b) H) ∧ (xs ≠ [] → ys = [] → Q (.ref a) H) ∧ (xs ≠ [] → ys ≠ [] → NewT H Q (xs ++ ys))
theorem op_catN : OpR X (binaryOp .Add) (rCatN X.K) := by
  rintro pins s σ H x y v u Q I rx ry ⟨a, b, xs, ys, rfl, rfl, ha, hb, hz, q0, q1, q2⟩
  cases rx
  cases ry
  obtain ⟨its, r1, p1, _⟩ := I.tuple ha
  obtain ⟨its2, r2, p2, _⟩ := I.tuple hb
  by_cases hx : xs = []
  · subst hx
    cases r1
    exact cat_tup0 p1 p2 ⟨.ref b, H, I, rfl, q0 rfl⟩
  · have zz : its.length + its2.length ≤ sizeLine := by
      rw [← r1.length, ← r2.length]
      exact hz
    refine HT.cat_tup p1 p2 (fun z => hx (r1.nil_iff.mp z)) (fun z => ⟨.ref a, H, I, rfl, q1 hx (r2.nil_iff.mp z)⟩) (fun z => ?_) zz
    refine newT I (r1.append r2) (by rw [List.length_append]; exact hz) (q2 hx fun w => z (r2.nil_iff.mpr w))
/-- t[lo:hi] -/
def rSlN (K : PySem.W.Frag) : V → Option Int → Option Int → Hp → VK → Prop := fun x lo hi H Q => ∃ a xs, x = .ref a ∧ SqT K H a xs ∧
  (HT.sIx xs.length 0 lo = 0 ∧ HT.sIx xs.length xs.length hi = xs.length → Q (.ref a) H) ∧ (¬ (HT.sIx xs.length 0 lo = 0 ∧ HT.sIx xs.length xs.length hi = xs.length) → NewT H Q (cutV xs lo hi))
theorem sl_tupN : SlR X (rSlN X.K) := by
  rintro pins s σ H x v vl vu lo hi sl Q I rx hs pl pu ⟨a, xs, rfl, hx, q1, q2⟩
  cases rx
  obtain ⟨its, r, ht, hz⟩ := I.tuple hx
  have hl : its.toArray.size = xs.length := by rw [List.size_toArray, r.length]
  refine ⟨"tuple", _, slot_tuple_getitem.lookup, ht.typeIs, ?_⟩
  by_cases hw : HT.sIx xs.length 0 lo = 0 ∧ HT.sIx xs.length xs.length hi = xs.length
  · exact getItem_tuple_whole ht hs pl pu (hl ▸ hw) ⟨.ref a, H, I, rfl, q1 hw⟩
  · refine HT.getItem_tuple_cut ht hs pl pu (by rw [hl]; exact hw) ?_ (hl ▸ hz)
    rw [hl]
    exact newT I (Vals.take _ (Vals.drop _ r)) (Nat.le_trans (cutV_length xs lo hi) hz) (q2 hw)
end
end L2
set_option Elab.async false
set_option linter.all false
set_option maxRecDepth 100000
set_option maxHeartbeats 4000000
namespace L2
open PySem PySem.Spec PyProof.Rows RZ
end L2
set_option Elab.async false
set_option linter.all false
set_option maxRecDepth 100000
set_option maxHeartbeats 4000000
namespace DL
open PySem PySem.Spec PyProof.Rows L2
/-- the tables of code objects that may grow -/
class Tb where
  Ts : List Addr
variable [Tb]
def hid (O : List Addr) (H : Hp) : Hp := fun a => if a ∈ O then none else H a
theorem hid_out {O : List Addr} {H : Hp} {a : Addr} (h : a ∉ O) : hid O H a = H a := if_neg h
theorem hid_in {O : List Addr} {H : Hp} {a : Addr} (h : a ∈ O) : hid O H a = none := if_pos h
theorem hid_some {O : List Addr} {H : Hp} {a : Addr} {o : HO} (h : hid O H a = some o) : a ∉ O ∧ H a = some o := by
  by_cases m : a ∈ O
  · rw [hid_in m] at h; cases h
  · rw [hid_out m] at h; exact ⟨m, h⟩
theorem hid_same {O O' : List Addr} {H H' : Hp} (h1 : ∀ a o, a ∉ O → H a = some o → H' a = some o)
    (h2 : ∀ a ∈ O', a ∈ O ∨ H a = none) : Same (hid O H) (hid O' H') := by
  intro a o h
  obtain ⟨m, e⟩ := hid_some h
  rw [hid_out]
  · exact h1 a o m e
  · intro z
    rcases h2 a z with q | q
    · exact m q
    · rw [e] at q; cases q
theorem SqT.same {K : PySem.W.Frag} {H H' : Hp} {a : Addr} {xs : List V} (e : Same H H') (h : SqT K H a xs) : SqT K H' a xs := by
  rcases h with (h | ⟨o, h⟩) | h
  · exact .inl (.inl (e _ _ h))
  · exact .inl (.inr ⟨o, e _ _ h⟩)
  · exact .inr h
/-- a key of a dict as data -/
def keyD : Key → PyData
  | .inl i => .int i
  | .inr s => .str s
/-- what an object of a dict holds: its keys as data, its values -/
def DObj (o : HO) (ks : List PyData) (vs : List V) : Prop := ∃ kvs : List (Key × V), o = .dK kvs ∧ ks = kvs.map (fun p => keyD p.1) ∧ vs = kvs.map (·.2)
/-- what may be one's own: a list or a dict -/
def IsOwn (o : HO) : Prop := (∀ xs : List V, o ≠ .tup xs) ∧ ∀ (b : Obj) (xs : List V), o ≠ .frz b (.tup xs)
theorem own_lst {xs : List V} : IsOwn (.lst xs) := ⟨fun _ z => (by cases z), fun _ _ z => (by cases z)⟩
theorem own_dK {kvs : List (Key × V)} : IsOwn (.dK kvs) := ⟨fun _ z => (by cases z), fun _ _ z => (by cases z)⟩
theorem DObj.own {o : HO} {ks : List PyData} {vs : List V} (h : DObj o ks vs) : IsOwn o := by
  obtain ⟨kvs, rfl, _⟩ := h
  exact own_dK
mutual
/-- data: lists are tracked and may be one's own, tuples may be written ones -/
inductive Dx (K : PySem.W.Frag) (H : Hp) : V → PyData → Prop
  | non : Dx K H .non .none
  | bl (b : Bool) : Dx K H (.bl b) (.bool b)
  | int (i : Int) : Dx K H (.int i) (.int i)
  | str (x : Str) : Dx K H (.str x) (.str x)
  | lst {a : Addr} {xs : List V} {ds : List PyData} : H a = some (HO.lst xs) → DxAll K H xs ds → Dx K H (.ref a) (.list ds)
  | tup {a : Addr} {xs : List V} {ds : List PyData} : SqN K H a xs → DxAll K H xs ds → Dx K H (.ref a) (.tuple ds)
  | dct {a : Addr} {o : HO} {vs : List V} {es : List (PyData × PyData)} : H a = some o → DObj o (es.map (·.1)) vs → DxAll K H vs (es.map (·.2)) → Dx K H (.ref a) (.dict es)
inductive DxAll (K : PySem.W.Frag) (H : Hp) : List V → List PyData → Prop
  | nil : DxAll K H [] []
  | cons {v : V} {vs : List V} {d : PyData} {ds : List PyData} : Dx K H v d → DxAll K H vs ds → DxAll K H (v :: vs) (d :: ds)
end
mutual
theorem Dx.dp {K : PySem.W.Frag} {H : Hp} : ∀ (d : PyData) (v : V), Dx K H v d → d.canLay0 = true → Dp K H v d
  | _, _, .non, _ => .non
  | _, _, .bl b, _ => .bl b
  | _, _, .int i, _ => .int i
  | _, _, .str x, _ => .str x
  | _, _, .lst (ds := ds) h q, n => .lst (.inl (.inl h)) (DxAll.dp ds _ q (by simpa [PyData.canLay0] using n))
  | _, _, .tup (ds := ds) h q, n => .tup h.sq (DxAll.dp ds _ q (by simpa [PyData.canLay0] using n))
  | _, _, .dct _ _ _, n => by simp [PyData.canLay0] at n
theorem DxAll.dp {K : PySem.W.Frag} {H : Hp} : ∀ (ds : List PyData) (vs : List V), DxAll K H vs ds → PyData.canLayAll0 ds = true → DpAll K H vs ds
  | _, _, .nil, _ => .nil
  | _, _, .cons (d := d) (ds := ds) h q, n => by
    simp only [PyData.canLayAll0, Bool.and_eq_true] at n
    exact .cons (Dx.dp d _ h n.1) (DxAll.dp ds _ q n.2)
end
mutual
theorem Dx.same {K : PySem.W.Frag} {H H' : Hp} (s : Same H H') : ∀ (d : PyData) (v : V), Dx K H v d → Dx K H' v d
  | _, _, .non => .non
  | _, _, .bl b => .bl b
  | _, _, .int i => .int i
  | _, _, .str x => .str x
  | _, _, .lst (ds := ds) h q => .lst (s _ _ h) (DxAll.same s ds _ q)
  | _, _, .tup (ds := ds) h q => .tup (SqN.same s h) (DxAll.same s ds _ q)
  | _, _, .dct (es := es) h q t => .dct (s _ _ h) q (DxAll.same s (es.map (·.2)) _ t)
theorem DxAll.same {K : PySem.W.Frag} {H H' : Hp} (s : Same H H') : ∀ (ds : List PyData) (vs : List V), DxAll K H vs ds → DxAll K H' vs ds
  | _, _, .nil => .nil
  | _, _, .cons (d := d) (ds := ds) h q => .cons (Dx.same s d _ h) (DxAll.same s ds _ q)
end
theorem DxAll.len {K : PySem.W.Frag} {H : Hp} : ∀ {vs : List V} {ds : List PyData}, DxAll K H vs ds → vs.length = ds.length
  | _, _, .nil => rfl
  | _, _, .cons _ q => by rw [List.length_cons, List.length_cons, DxAll.len q]
theorem DxAll.get {K : PySem.W.Frag} {H : Hp} : ∀ {vs : List V} {ds : List PyData}, DxAll K H vs ds → ∀ {i : Nat} {d : PyData}, ds[i]? = some d → ∃ v, vs[i]? = some v ∧ Dx K H v d
  | _, _, .nil, i, d, e => by simp at e
  | _, _, .cons h _, 0, d, e => by simp at e; subst e; exact ⟨_, rfl, h⟩
  | _, _, .cons _ q, i + 1, d, e => by
    obtain ⟨v, h1, h2⟩ := DxAll.get q (i := i) (d := d) (by simpa using e)
    exact ⟨v, by simpa using h1, h2⟩
theorem DxAll.app {K : PySem.W.Frag} {H : Hp} : ∀ {vs ws : List V} {ds es : List PyData}, DxAll K H vs ds → DxAll K H ws es → DxAll K H (vs ++ ws) (ds ++ es)
  | _, _, _, _, .nil, q => q
  | _, _, _, _, .cons h t, q => .cons h (DxAll.app t q)
theorem DxAll.take {K : PySem.W.Frag} {H : Hp} : ∀ {vs : List V} {ds : List PyData} (n : Nat), DxAll K H vs ds → DxAll K H (vs.take n) (ds.take n)
  | _, _, 0, _ => .nil
  | _, _, _ + 1, .nil => .nil
  | _, _, n + 1, .cons h t => .cons h (DxAll.take n t)
theorem DxAll.drop {K : PySem.W.Frag} {H : Hp} : ∀ {vs : List V} {ds : List PyData} (n : Nat), DxAll K H vs ds → DxAll K H (vs.drop n) (ds.drop n)
  | _, _, 0, h => h
  | _, _, _ + 1, .nil => .nil
  | _, _, n + 1, .cons _ t => DxAll.drop n t
theorem DxAll.rev {K : PySem.W.Frag} {H : Hp} : ∀ {vs : List V} {ds : List PyData}, DxAll K H vs ds → DxAll K H vs.reverse ds.reverse
  | _, _, .nil => .nil
  | _, _, .cons h t => by rw [List.reverse_cons, List.reverse_cons]; exact DxAll.app (DxAll.rev t) (.cons h .nil)
def SrcAt (H : Hp) (a c : Addr) : Prop := ∃ (cells : List Int) (left mixed turn : Int),
  H a = some (.dK [(.inr "cells", .ref c), (.inr "left", .int left), (.inr "mixed", .int mixed), (.inr "turn", .int turn)]) ∧ H c = some (.lst (cells.map V.int)) ∧ cells.length ≤ 63
def SrcOk (H : Hp) (S : List Addr) : Prop := (S = Tb.Ts ∨ ∃ a c, S = a :: c :: Tb.Ts ∧ SrcAt H a c) ∧ ∀ P ∈ (Tb.Ts : List Addr), GxR.TabG H P
theorem SrcOk.there {H : Hp} {S : List Addr} (h : SrcOk H S) : ∀ a ∈ S, H a ≠ none := by
  have tb : ∀ P ∈ (Tb.Ts : List Addr), H P ≠ none := fun P m q => by
    obtain ⟨ps, e, _⟩ := h.2 P m
    rw [e] at q; cases q
  rcases h.1 with e | ⟨a, c, e, cs, l, m, t, h1, h2, _⟩
  · intro a z; rw [e] at z; exact tb a z
  · intro b z q
    rw [e] at z
    rcases List.mem_cons.mp z with rfl | z
    · rw [h1] at q; cases q
    · rcases List.mem_cons.mp z with rfl | z
      · rw [h2] at q; cases q
      · exact tb b z q
/-- all stands as it stood, but for the source -/
structure Ext (S : List Addr) (H H' : Hp) : Prop where
  st : ∀ a o, a ∉ S → H a = some o → H' a = some o
  so : SrcOk H S → SrcOk H' S
theorem Ext.refl {S : List Addr} {H : Hp} : Ext S H H := ⟨fun _ _ _ h => h, id⟩
theorem Ext.trans {S : List Addr} {H H1 H2 : Hp} (a : Ext S H H1) (b : Ext S H1 H2) : Ext S H H2 :=
  ⟨fun c o n h => b.st c o n (a.st c o n h), fun h => b.so (a.so h)⟩
theorem SrcOk.same {S : List Addr} {H H' : Hp} (s : Same H H') (h : SrcOk H S) : SrcOk H' S := by
  refine ⟨?_, fun P m => ?_⟩
  · rcases h.1 with h | ⟨a, c, e, cs, l, m, t, h1, h2, h3⟩
    · exact .inl h
    · exact .inr ⟨a, c, e, cs, l, m, t, s _ _ h1, s _ _ h2, h3⟩
  · obtain ⟨ps, e, r⟩ := h.2 P m
    exact ⟨ps, s _ _ e, r⟩
theorem Ext.of {S : List Addr} {H H' : Hp} (s : Same H H') : Ext S H H' := ⟨fun a o _ h => s a o h, SrcOk.same s⟩
theorem same_new {H : Hp} {p : Addr} {o : HO} (h : H p = none) : Same H (upd H p o) := fun b x e => by
  rw [upd_ne (ne_of_none e h)]; exact e
inductive SV where
  /-- not read -/
  | un
  /-- data that nobody changes -/
  | va (d : PyData)
  /-- a list of one's own -/
  | ow (ds : List PyData)
  /-- the source -/
  | so
  /-- a dict of one's own -/
  | od (es : List (PyData × PyData))
  /-- a def that was handed over -/
  | fn (f : Addr)
abbrev SD := List SV
@[reducible] def SV.isOwn : SV → Bool
  | .ow _ => true
  | .od _ => true
  | _ => false
/-- what is fixed while a def's body runs -/
structure Cd where
  K : PySem.W.Frag
  H0 : Hp
  Oc : List Addr
  S : List Addr
  /-- what else stays -/
  T : List (V × PyData)
/-- the hidden places: the caller's and those of one's own lists -/
def OO (c : Cd) (os : List (Option Addr)) : List Addr := c.Oc ++ os.filterMap id
theorem mem_OO {c : Cd} {os : List (Option Addr)} {a : Addr} : a ∈ OO c os ↔ a ∈ c.Oc ∨ some a ∈ os := by
  unfold OO
  rw [List.mem_append, List.mem_filterMap]
  constructor
  · rintro (h | ⟨b, h1, h2⟩)
    · exact .inl h
    · exact .inr (by have : b = some a := h2; rw [← this]; exact h1)
  · rintro (h | h)
    · exact .inl h
    · exact .inr ⟨_, h, rfl⟩
def DE (K : PySem.W.Frag) (H : Hp) (o : HO) (es : List (PyData × PyData)) : Prop := ∃ vs : List V, DObj o (es.map (·.1)) vs ∧ DxAll K H vs (es.map (·.2))
theorem DE.same {K : PySem.W.Frag} {H H' : Hp} {o : HO} {es : List (PyData × PyData)} (s : Same H H') (h : DE K H o es) : DE K H' o es := by
  obtain ⟨vs, h1, h2⟩ := h
  exact ⟨vs, h1, DxAll.same s _ _ h2⟩
theorem DE.own {K : PySem.W.Frag} {H : Hp} {o : HO} {es : List (PyData × PyData)} (h : DE K H o es) : IsOwn o := by
  obtain ⟨vs, h1, _⟩ := h
  exact h1.own
theorem DE.dx {K : PySem.W.Frag} {H : Hp} {a : Addr} {o : HO} {es : List (PyData × PyData)} (e : H a = some o) (h : DE K H o es) : Dx K H (.ref a) (.dict es) := by
  obtain ⟨vs, h1, h2⟩ := h
  exact .dct e h1 h2
def SlotR (c : Cd) (O : List Addr) (H : Hp) (s : SV) (v : Option V) (oa : Option Addr) : Prop := match s with
  | .un => oa = none
  | .va d => oa = none ∧ ∃ x : V, v = some x ∧ Dx c.K (hid O H) x d
  | .ow ds => ∃ (a : Addr) (xs : List V), oa = some a ∧ v = some (V.ref a) ∧ H a = some (HO.lst xs) ∧ DxAll c.K (hid O H) xs ds ∧ c.H0 a = none
  | .od es => ∃ (a : Addr) (o : HO), oa = some a ∧ v = some (V.ref a) ∧ H a = some o ∧ DE c.K (hid O H) o es ∧ c.H0 a = none
  | .so => oa = none ∧ ∃ a b, c.S = a :: b :: Tb.Ts ∧ v = some (.ref a)
  | .fn f => oa = none ∧ v = some (.ref f)
/-- hidden places hold lists, or are the source's -/
def OcOk (H : Hp) (S Oc : List Addr) : Prop := ∀ a ∈ Oc, a ∈ S ∨ ∃ o : HO, H a = some o ∧ IsOwn o
theorem OcOk.there {H : Hp} {S Oc : List Addr} (h : OcOk H S Oc) (hs : SrcOk H S) : ∀ a ∈ Oc, H a ≠ none := fun a m => by
  rcases h a m with z | ⟨o, e, _⟩
  · exact hs.there a z
  · rw [e]; intro q; cases q
structure R (c : Cd) (sd : SD) (os : List (Option Addr)) (σ : L2.St) (H : Hp) : Prop where
  ext : Ext c.S c.H0 H
  src : SrcOk c.H0 c.S
  sin : ∀ a ∈ c.S, a ∈ c.Oc
  ocl : OcOk H c.S c.Oc
  lend : sd.length = σ.length
  leno : os.length = σ.length
  slot : ∀ (i : Nat) (s : SV) (v : Option V) (oa : Option Addr), sd[i]? = some s → σ[i]? = some v → os[i]? = some oa → SlotR c (OO c os) H s v oa
  uniq : ∀ (i j : Nat) (a : Addr), os[i]? = some (some a) → os[j]? = some (some a) → i = j
  tmp : ∀ p ∈ c.T, Dx c.K (hid (OO c os) H) p.1 p.2
  dis : ∀ a, some a ∈ os → a ∉ c.Oc
theorem OcOk.grow {H H' : Hp} {S Oc : List Addr} (h : OcOk H S Oc) (x : Ext S H H') : OcOk H' S Oc := fun a m => by
  by_cases z : a ∈ S
  · exact .inl z
  · rcases h a m with y | ⟨o, e, w⟩
    · exact .inl y
    · exact .inr ⟨o, x.st a _ z e, w⟩
section
variable {c : Cd} {sd : SD} {os : List (Option Addr)} {σ : L2.St} {H H' : Hp}
theorem R.sO (r : R c sd os σ H) : ∀ a ∈ c.S, a ∈ OO c os := fun a h => mem_OO.mpr (.inl (r.sin a h))
theorem R.ownAt (r : R c sd os σ H) {a : Addr} (h : some a ∈ os) : ∃ (i : Nat) (s : SV) (o : HO), sd[i]? = some s ∧ s.isOwn = true ∧ σ[i]? = some (some (V.ref a)) ∧ os[i]? = some (some a) ∧ H a = some o ∧ IsOwn o ∧ c.H0 a = none := by
  obtain ⟨i, hi, e⟩ := List.getElem_of_mem h
  have eo : os[i]? = some (some a) := by rw [List.getElem?_eq_getElem hi, e]
  have l1 : i < sd.length := by rw [r.lend, ← r.leno]; exact hi
  have l2 : i < σ.length := by rw [← r.leno]; exact hi
  have s := r.slot i sd[i] σ[i] _ (List.getElem?_eq_getElem l1) (List.getElem?_eq_getElem l2) eo
  cases q : sd[i] with
  | un => rw [q] at s; cases s
  | va d => rw [q] at s; cases s.1
  | so => rw [q] at s; cases s.1
  | fn _ => rw [q] at s; cases s.1
  | ow ds =>
    rw [q] at s
    obtain ⟨a', xs, e1, e2, e3, e4, e5⟩ := s
    cases e1
    exact ⟨i, _, _, by rw [List.getElem?_eq_getElem l1, q], rfl, by rw [List.getElem?_eq_getElem l2, e2], eo, e3, own_lst, e5⟩
  | od es =>
    rw [q] at s
    obtain ⟨a', o, e1, e2, e3, e4, e5⟩ := s
    cases e1
    exact ⟨i, _, o, by rw [List.getElem?_eq_getElem l1, q], rfl, by rw [List.getElem?_eq_getElem l2, e2], eo, e3, e4.own, e5⟩
theorem R.there (r : R c sd os σ H) {a : Addr} (h : a ∈ OO c os) : H a ≠ none := by
  rcases mem_OO.mp h with q | q
  · exact r.ocl.there (r.ext.so r.src) a q
  · obtain ⟨_, _, _, _, _, _, _, e, _⟩ := r.ownAt q
    rw [e]; intro z; cases z
theorem R.newOut (r : R c sd os σ H) {p : Addr} (h : H p = none) : p ∉ OO c os := fun m => r.there m h
/-- data stays where the heap grows -/
theorem Dx.grow {K : PySem.W.Frag} {S O : List Addr} {v : V} {d : PyData} (hs : ∀ a ∈ S, a ∈ O) (x : Ext S H H') (h : Dx K (hid O H) v d) : Dx K (hid O H') v d :=
  Dx.same (hid_same (fun a o n e => x.st a o (fun z => n (hs a z)) e) fun a m => .inl m) d v h
theorem DxAll.grow {K : PySem.W.Frag} {S O : List Addr} {v : List V} {d : List PyData} (hs : ∀ a ∈ S, a ∈ O) (x : Ext S H H') (h : DxAll K (hid O H) v d) : DxAll K (hid O H') v d :=
  DxAll.same (hid_same (fun a o n e => x.st a o (fun z => n (hs a z)) e) fun a m => .inl m) d v h
theorem DE.grow {K : PySem.W.Frag} {S O : List Addr} {o : HO} {es : List (PyData × PyData)} (hs : ∀ a ∈ S, a ∈ O) (x : Ext S H H') (h : DE K (hid O H) o es) : DE K (hid O H') o es :=
  DE.same (hid_same (fun a o n e => x.st a o (fun z => n (hs a z)) e) fun a m => .inl m) h
theorem own_notS (r : R c sd os σ H) {a : Addr} (h : some a ∈ os) : a ∉ c.S := fun z => by
  obtain ⟨_, _, _, _, _, _, _, _, _, e⟩ := r.ownAt h
  exact r.src.there a z e
theorem R.grow (r : R c sd os σ H) (x : Ext c.S H H') : R c sd os σ H' := by
  refine ⟨r.ext.trans x, r.src, r.sin, r.ocl.grow x, r.lend, r.leno, fun i s v oa h1 h2 h3 => ?_, r.uniq, fun p m => Dx.grow r.sO x (r.tmp p m), r.dis⟩
  have q := r.slot i s v oa h1 h2 h3
  cases s with
  | un => exact q
  | va d => obtain ⟨q1, y, q2, q3⟩ := q; exact ⟨q1, y, q2, Dx.grow r.sO x q3⟩
  | so => exact q
  | fn _ => exact q
  | ow ds =>
    obtain ⟨a, xs, rfl, e2, e3, e4, e5⟩ := q
    exact ⟨a, xs, rfl, e2, x.st a _ (own_notS r (List.mem_of_getElem? h3)) e3, DxAll.grow r.sO x e4, e5⟩
  | od es =>
    obtain ⟨a, o, rfl, e2, e3, e4, e5⟩ := q
    exact ⟨a, o, rfl, e2, x.st a _ (own_notS r (List.mem_of_getElem? h3)) e3, DE.grow r.sO x e4, e5⟩
theorem R.ocNow (r : R c sd os σ H) : OcOk H c.S (OO c os) := fun a m => by
  rcases mem_OO.mp m with q | q
  · exact r.ocl a q
  · obtain ⟨_, _, o, _, _, _, _, e, w, _⟩ := r.ownAt q
    exact .inr ⟨o, e, w⟩
theorem R.srcNow (r : R c sd os σ H) : SrcOk H c.S := r.ext.so r.src
end
end DL
set_option Elab.async false
set_option linter.all false
set_option maxRecDepth 100000
set_option maxHeartbeats 4000000
namespace DL
open PySem PySem.Spec PyProof.Rows L2
variable [Tb]
/-- what an expression hands back: data, or a new list -/
inductive RV where
  | va (d : PyData)
  | fr (ds : List PyData)
  | fd (es : List (PyData × PyData))
@[reducible] def RV.dat : RV → PyData
  | .va d => d
  | .fr ds => .list ds
  | .fd es => .dict es
@[reducible] def RV.sv : RV → SV
  | .va d => .va d
  | .fr ds => .ow ds
  | .fd es => .od es
def RvR (K : PySem.W.Frag) (O : List Addr) (H H' : Hp) (v : V) (r : RV) : Prop := match r with
  | .va d => Dx K (hid O H') v d
  | .fr ds => ∃ (p : Addr) (xs : List V), v = V.ref p ∧ H p = none ∧ H' p = some (HO.lst xs) ∧ DxAll K (hid (p :: O) H') xs ds
  | .fd es => ∃ (p : Addr) (o : HO), v = V.ref p ∧ H p = none ∧ H' p = some o ∧ DE K (hid (p :: O) H') o es
/-- how a value is read: nothing of one's own in it; itself perhaps a list of one's own; any -/
inductive Md where
  | cl | sh | bo
def DM (m : Md) (K : PySem.W.Frag) (S O : List Addr) (H : Hp) (v : V) (d : PyData) : Prop := match m with
  | .cl => Dx K (hid O H) v d
  | .bo => Dx K (hid S H) v d
  | .sh => match d with
    | .list ds => ∃ (a : Addr) (xs : List V), v = V.ref a ∧ hid S H a = some (HO.lst xs) ∧ DxAll K (hid O H) xs ds
    | .dict es => ∃ (a : Addr) (o : HO), v = V.ref a ∧ hid S H a = some o ∧ DE K (hid O H) o es
    | d => Dx K (hid O H) v d
abbrev WR := SD → (RV → Prop) → Prop
abbrev WD := SD → (PyData → Prop) → Prop
abbrev WB := SD → (Bool → Prop) → Prop
abbrev WL := SD → (List PyData → Prop) → Prop
def tR (K : PySem.W.Frag) (w : WR) : TE := fun σ H Q => ∃ (c : Cd) (sd : SD) (os : List (Option Addr)), c.K = K ∧ R c sd os σ H ∧
  w sd fun r => ∀ v H', Ext c.S H H' → RvR K (OO c os) H H' v r → Q v H'
def tM (m : Md) (K : PySem.W.Frag) (w : WD) : TE := fun σ H Q => ∃ (c : Cd) (sd : SD) (os : List (Option Addr)), c.K = K ∧ R c sd os σ H ∧
  w sd fun d => ∀ v H', Ext c.S H H' → DM m K c.S (OO c os) H' v d → Q v H'
def tTe (K : PySem.W.Frag) (w : WB) : TT := fun σ H Q => ∃ (c : Cd) (sd : SD) (os : List (Option Addr)), c.K = K ∧ R c sd os σ H ∧
  w sd fun b => ∀ H', Ext c.S H H' → Q b H'
inductive DMs (m : Md) (K : PySem.W.Frag) (S O : List Addr) (H : Hp) : List V → List PyData → Prop
  | nil : DMs m K S O H [] []
  | cons {v : V} {vs : List V} {d : PyData} {ds : List PyData} : DM m K S O H v d → DMs m K S O H vs ds → DMs m K S O H (v :: vs) (d :: ds)
def tLi (m : Md) (K : PySem.W.Frag) (w : WL) : TA := fun σ H Q => ∃ (c : Cd) (sd : SD) (os : List (Option Addr)), c.K = K ∧ R c sd os σ H ∧
  w sd fun ds => ∀ vs H', Ext c.S H H' → DMs m K c.S (OO c os) H' vs ds → Q vs H'
structure EvR (X : Cx) (e : Expr) (w : WR) : Prop where
  pe : PE X e (tR X.K w)
  mo : ∀ sd (Q Q' : RV → Prop), (∀ r, Q r → Q' r) → w sd Q → w sd Q'
structure Ev (m : Md) (X : Cx) (e : Expr) (w : WD) : Prop where
  pe : PE X e (tM m X.K w)
  mo : ∀ sd (Q Q' : PyData → Prop), (∀ r, Q r → Q' r) → w sd Q → w sd Q'
structure EvT (X : Cx) (e : Expr) (w : WB) : Prop where
  pt : PT X e (tTe X.K w)
  mo : ∀ sd (Q Q' : Bool → Prop), (∀ r, Q r → Q' r) → w sd Q → w sd Q'
structure EvL (m : Md) (X : Cx) (es : List Expr) (w : WL) : Prop where
  pa : PA X es (tLi m X.K w)
  mo : ∀ sd (Q Q' : List PyData → Prop), (∀ r, Q r → Q' r) → w sd Q → w sd Q'
theorem PE.weak {X : Cx} {e : Expr} {t t' : TE} (h : PE X e t) (k : ∀ σ H Q, t' σ H Q → t σ H Q) : PE X e t' :=
  ⟨fun pins s σ H Q I q => h.run pins s σ H Q I (k σ H Q q)⟩
theorem PT.weak {X : Cx} {e : Expr} {t t' : TT} (h : PT X e t) (k : ∀ σ H Q, t' σ H Q → t σ H Q) : PT X e t' :=
  ⟨fun pins s σ H Q I q => h.run pins s σ H Q I (k σ H Q q)⟩
theorem PA.weak {X : Cx} {e : List Expr} {t t' : TA} (h : PA X e t) (k : ∀ σ H Q, t' σ H Q → t σ H Q) : PA X e t' :=
  ⟨fun pos pins s σ H Q I q => h.run pos pins s σ H Q I (k σ H Q q)⟩
section
variable {K : PySem.W.Frag} {S O : List Addr} {H H' : Hp} {v : V} {d : PyData} {m : Md}
theorem hid_grow {a : Addr} {o : HO} (hs : ∀ a ∈ S, a ∈ O) (x : Ext S H H') (h : hid O H a = some o) : hid O H' a = some o :=
  hid_same (fun a o n e => x.st a o (fun z => n (hs a z)) e) (fun a m => .inl m) a o h
theorem DM.grow (hs : ∀ a ∈ S, a ∈ O) (x : Ext S H H') (h : DM m K S O H v d) : DM m K S O H' v d := by
  cases m with
  | cl => exact Dx.grow (S := S) hs x h
  | bo => exact Dx.grow (S := S) (fun _ h => h) x h
  | sh =>
    cases d with
    | list ds =>
      obtain ⟨a, xs, e, h1, h2⟩ := h
      exact ⟨a, xs, e, hid_grow (fun _ h => h) x h1, DxAll.grow hs x h2⟩
    | none => exact Dx.grow (S := S) hs x h
    | bool b => exact Dx.grow (S := S) hs x h
    | int b => exact Dx.grow (S := S) hs x h
    | str b => exact Dx.grow (S := S) hs x h
    | tuple b => exact Dx.grow (S := S) hs x h
    | dict b =>
      obtain ⟨a, o, e, h1, h2⟩ := h
      exact ⟨a, o, e, hid_grow (fun _ h => h) x h1, DE.grow hs x h2⟩
theorem DMs.grow (hs : ∀ a ∈ S, a ∈ O) (x : Ext S H H') : ∀ {vs : List V} {ds : List PyData}, DMs m K S O H vs ds → DMs m K S O H' vs ds
  | _, _, .nil => .nil
  | _, _, .cons h t => .cons (DM.grow hs x h) (DMs.grow hs x t)
theorem hid_le (hs : ∀ a ∈ S, a ∈ O) : Same (hid O H) (hid S H) := hid_same (fun _ _ _ e => e) fun a m => .inl (hs a m)
theorem DM.of_cl (hs : ∀ a ∈ S, a ∈ O) (h : Dx K (hid O H) v d) : DM m K S O H v d := by
  cases m with
  | cl => exact h
  | bo => exact Dx.same (hid_le hs) d v h
  | sh =>
    cases d with
    | list ds =>
      cases h with
      | lst h1 h2 => exact ⟨_, _, rfl, hid_le hs _ _ h1, h2⟩
    | dict es =>
      cases h with
      | dct h1 h2 h3 => exact ⟨_, _, rfl, hid_le hs _ _ h1, _, h2, h3⟩
    | none => exact h
    | bool b => exact h
    | int b => exact h
    | str b => exact h
    | tuple b => exact h
theorem DM.to_bo (hs : ∀ a ∈ S, a ∈ O) (h : DM m K S O H v d) : Dx K (hid S H) v d := by
  cases m with
  | cl => exact Dx.same (hid_le hs) d v h
  | bo => exact h
  | sh =>
    cases d with
    | list ds =>
      obtain ⟨a, xs, rfl, h1, h2⟩ := h
      exact .lst h1 (DxAll.same (hid_le hs) _ _ h2)
    | none => exact Dx.same (hid_le hs) _ v h
    | bool b => exact Dx.same (hid_le hs) _ v h
    | int b => exact Dx.same (hid_le hs) _ v h
    | str b => exact Dx.same (hid_le hs) _ v h
    | tuple b => exact Dx.same (hid_le hs) _ v h
    | dict es =>
      obtain ⟨a, o, rfl, h1, vs, h2, h3⟩ := h
      exact .dct h1 h2 (DxAll.same (hid_le hs) _ _ h3)
theorem DMs.all (hs : ∀ a ∈ S, a ∈ O) : ∀ {vs : List V} {ds : List PyData}, DMs .cl K S O H vs ds → DxAll K (hid O H) vs ds
  | _, _, .nil => .nil
  | _, _, .cons h t => .cons h (DMs.all hs t)
theorem RvR.cl {r : RV} (h : RvR K O H H' v r) (hO : ∀ a ∈ O, H a ≠ none) : Dx K (hid O H') v r.dat := by
  cases r with
  | va d => exact h
  | fr ds =>
    obtain ⟨p, xs, rfl, h1, h2, h3⟩ := h
    have np : p ∉ O := fun z => hO p z h1
    refine .lst (by rw [hid_out np]; exact h2) (DxAll.same (hid_same (fun _ _ _ e => e) fun a m => .inl (List.mem_cons_of_mem _ m)) _ _ h3)
  | fd es =>
    obtain ⟨p, o, rfl, h1, h2, h3⟩ := h
    have np : p ∉ O := fun z => hO p z h1
    exact DE.dx (by rw [hid_out np]; exact h2) (DE.same (hid_same (fun _ _ _ e => e) fun a m => .inl (List.mem_cons_of_mem _ m)) h3)
end
section
variable {X : Cx} {e a b : Expr} {es : List Expr} {m m1 m2 : Md} {pos : Pos}
theorem EvR.cl {w : WR} (h : EvR X e w) : Ev m X e (fun sd Q => w sd fun r => Q r.dat) where
  pe := PE.weak h.pe fun σ H Q ⟨c, sd, os, hk, r, q⟩ => ⟨c, sd, os, hk, r, h.mo _ _ _ (fun z k v H' x rv => k v H' x (DM.of_cl r.sO (RvR.cl rv fun a m => r.there m))) q⟩
  mo := fun sd Q Q' k q => h.mo _ _ _ (fun r z => k _ z) q
theorem Ev.rv {w : WD} (h : Ev .cl X e w) : EvR X e (fun sd Q => w sd fun d => Q (.va d)) where
  pe := PE.weak h.pe fun σ H Q ⟨c, sd, os, hk, r, q⟩ => ⟨c, sd, os, hk, r, h.mo _ _ _ (fun z k v H' x rv => k v H' x rv) q⟩
  mo := fun sd Q Q' k q => h.mo _ _ _ (fun r z => k _ z) q
theorem Ev.up {w : WD} (h : Ev .cl X e w) : Ev m X e w where
  pe := PE.weak h.pe fun σ H Q ⟨c, sd, os, hk, r, q⟩ => ⟨c, sd, os, hk, r, h.mo _ _ _ (fun z k v H' x rv => k v H' x (DM.of_cl r.sO rv)) q⟩
  mo := h.mo
theorem Ev.bo {w : WD} (h : Ev m X e w) : Ev .bo X e w where
  pe := PE.weak h.pe fun σ H Q ⟨c, sd, os, hk, r, q⟩ => ⟨c, sd, os, hk, r, h.mo _ _ _ (fun z k v H' x rv => k v H' x (DM.to_bo r.sO rv)) q⟩
  mo := h.mo
@[reducible] def getS : SD → Nat → SV
  | [], _ => .un
  | s :: _, 0 => s
  | _ :: r, n + 1 => getS r n
theorem getS_some : ∀ {sd : SD} {i : Nat} {s : SV}, getS sd i = s → s ≠ .un → sd[i]? = some s
  | [], _, s, h, n => absurd h.symm n
  | t :: _, 0, s, h, _ => by have h' : t = s := h; subst h'; rfl
  | _ :: r, k + 1, s, h, n => by have := getS_some (sd := r) (i := k) h n; simpa using this
theorem R.at_ {c : Cd} {sd : SD} {os : List (Option Addr)} {σ : L2.St} {H : Hp} {i : Nat} {s : SV} (r : R c sd os σ H) (h : getS sd i = s) (n : s ≠ .un) :
    ∃ v oa, σ[i]? = some v ∧ os[i]? = some oa ∧ SlotR c (OO c os) H s v oa := by
  have e := getS_some h n
  obtain ⟨l, _⟩ := List.getElem?_eq_some_iff.mp e
  have l2 : i < σ.length := by rw [← r.lend]; exact l
  have l3 : i < os.length := by rw [r.leno]; exact l2
  exact ⟨_, _, List.getElem?_eq_getElem l2, List.getElem?_eq_getElem l3, r.slot i s _ _ e (List.getElem?_eq_getElem l2) (List.getElem?_eq_getElem l3)⟩
def wName (i : Nat) : WD := fun sd Q => match getS sd i with
  | .va d => Q d
  | _ => False
def wNameS (i : Nat) : WD := fun sd Q => match getS sd i with
  | .va d => Q d
  | .ow ds => Q (.list ds)
  | .od es => Q (.dict es)
  | _ => False
theorem ev_name {x : Str} (i : Nat) (hN : X.N[i]? = some x := by rfl)
    (hv : Vis X.env.scope x := by first | exact Or.inl rfl | exact Or.inr (Or.inl rfl) | exact Or.inr (Or.inr rfl))
    (hd : (x == ("__debug__" : Str)) = false := by decide) (hcd : (x == ("__classdict__" : Str)) = false := by decide) : Ev m X (.Name x pos) (wName i) := by
  refine Ev.up ⟨PE.weak (pe_var hN hv hd hcd) fun σ H Q ⟨c, sd, os, hk, r, q⟩ => ?_, fun sd Q Q' k q => ?_⟩
  · unfold wName at q
    cases e : getS sd i with
    | va d =>
      rw [e] at q
      obtain ⟨v, oa, h1, h2, h3, y, rfl, h4⟩ := r.at_ e (by intro z; cases z)
      exact ⟨y, h1, q y H Ext.refl (by rw [← hk]; exact h4)⟩
    | un => rw [e] at q; exact q.elim
    | so => rw [e] at q; exact q.elim
    | fn _ => rw [e] at q; exact q.elim
    | od _ => rw [e] at q; exact q.elim
    | ow ds => rw [e] at q; exact q.elim
  · unfold wName at q ⊢
    cases e : getS sd i with
    | va d => rw [e] at q; exact k _ q
    | un => rw [e] at q; exact q.elim
    | so => rw [e] at q; exact q.elim
    | fn _ => rw [e] at q; exact q.elim
    | od _ => rw [e] at q; exact q.elim
    | ow ds => rw [e] at q; exact q.elim
theorem ev_nameS {x : Str} (i : Nat) (hN : X.N[i]? = some x := by rfl)
    (hv : Vis X.env.scope x := by first | exact Or.inl rfl | exact Or.inr (Or.inl rfl) | exact Or.inr (Or.inr rfl))
    (hd : (x == ("__debug__" : Str)) = false := by decide) (hcd : (x == ("__classdict__" : Str)) = false := by decide) : Ev .sh X (.Name x pos) (wNameS i) := by
  refine ⟨PE.weak (pe_var hN hv hd hcd) fun σ H Q ⟨c, sd, os, hk, r, q⟩ => ?_, fun sd Q Q' k q => ?_⟩
  · unfold wNameS at q
    cases e : getS sd i with
    | va d =>
      rw [e] at q
      obtain ⟨v, oa, h1, h2, h3, y, rfl, h4⟩ := r.at_ e (by intro z; cases z)
      exact ⟨y, h1, q y H Ext.refl (by rw [← hk]; exact DM.of_cl r.sO h4)⟩
    | ow ds =>
      rw [e] at q
      obtain ⟨v, oa, h1, h2, a, xs, rfl, rfl, h3, h4, h5⟩ := r.at_ e (by intro z; cases z)
      refine ⟨_, h1, q (V.ref a) H Ext.refl ?_⟩
      rw [← hk]
      exact ⟨a, xs, rfl, by rw [hid_out (own_notS r (List.mem_of_getElem? h2))]; exact h3, h4⟩
    | od es =>
      rw [e] at q
      obtain ⟨v, oa, h1, h2, a, o, rfl, rfl, h3, h4, h5⟩ := r.at_ e (by intro z; cases z)
      refine ⟨_, h1, q (V.ref a) H Ext.refl ?_⟩
      rw [← hk]
      exact ⟨a, o, rfl, by rw [hid_out (own_notS r (List.mem_of_getElem? h2))]; exact h3, h4⟩
    | un => rw [e] at q; exact q.elim
    | so => rw [e] at q; exact q.elim
    | fn _ => rw [e] at q; exact q.elim
  · unfold wNameS at q ⊢
    cases e : getS sd i with
    | va d => rw [e] at q; exact k _ q
    | ow d => rw [e] at q; exact k _ q
    | od d => rw [e] at q; exact k _ q
    | un => rw [e] at q; exact q.elim
    | so => rw [e] at q; exact q.elim
    | fn _ => rw [e] at q; exact q.elim
def wC (d : PyData) : WD := fun _ Q => Q d
theorem ev_c {d : PyData} {v : V} (h : PE X e (tC v)) (hd : ∀ K H, Dx K H v d) : Ev m X e (wC d) :=
  Ev.up ⟨PE.weak h fun σ H Q ⟨c, sd, os, hk, r, q⟩ => q v H Ext.refl (hd _ _), fun _ _ _ k q => k _ q⟩
theorem ev_int {i j} : Ev m X (.Constant (.int i) j pos) (wC (.int i)) := ev_c pe_int fun _ _ => .int i
theorem ev_bl {i j} : Ev m X (.Constant (.bool i) j pos) (wC (.bool i)) := ev_c pe_bl fun _ _ => .bl i
theorem ev_str {i j} : Ev m X (.Constant (.str i) j pos) (wC (.str i)) := ev_c pe_str fun _ _ => .str i
theorem evl_nil : EvL m X [] (fun _ Q => Q []) :=
  ⟨PA.weak pa_nil fun σ H Q ⟨c, sd, os, hk, r, q⟩ => q [] H Ext.refl .nil, fun _ _ _ k q => k _ q⟩
theorem evl_cons {w : WD} {ws : WL} (h : Ev m X e w) (t : EvL m X es ws) (hs : starEach (e :: es) X.env = (false, eval e X.env) :: starEach es X.env := by rfl) :
    EvL m X (e :: es) (fun sd Q => w sd fun d => ws sd fun ds => Q (d :: ds)) where
  pa := PA.weak (pa_cons h.pe t.pa hs) fun σ H Q ⟨c, sd, os, hk, r, q⟩ =>
    ⟨c, sd, os, hk, r, h.mo _ _ _ (fun d k v H1 x1 d1 => ⟨c, sd, os, hk, r.grow x1, t.mo _ _ _ (fun ds k2 vs H2 x2 d2 =>
      k2 (v :: vs) H2 (x1.trans x2) (.cons (DM.grow r.sO x2 d1) d2)) k⟩) q⟩
  mo := fun sd Q Q' k q => h.mo _ _ _ (fun d z => t.mo _ _ _ (fun ds z => k _ z) z) q
end
end DL
set_option Elab.async false
set_option linter.all false
set_option maxRecDepth 100000
set_option maxHeartbeats 4000000
namespace DL
open PySem PySem.Spec PyProof.Rows L2
variable [Tb]
/-- what is new behind some growth is new -/
theorem RvR.from {K : PySem.W.Frag} {S O : List Addr} {H H1 H' : Hp} {v : V} {z : RV} (hs : ∀ a ∈ S, a ∈ O) (ht : ∀ a ∈ O, H1 a ≠ none) (x : Ext S H H1) (h : RvR K O H1 H' v z) : RvR K O H H' v z := by
  cases z with
  | va d => exact h
  | fr ds =>
    obtain ⟨p, xs, e1, e2, e3, e4⟩ := h
    refine ⟨p, xs, e1, ?_, e3, e4⟩
    cases q : H p with
    | none => rfl
    | some o =>
      by_cases z : p ∈ S
      · exact absurd e2 (ht p (hs p z))
      · rw [x.st p o z q] at e2; cases e2
  | fd es =>
    obtain ⟨p, xs, e1, e2, e3, e4⟩ := h
    refine ⟨p, xs, e1, ?_, e3, e4⟩
    cases q : H p with
    | none => rfl
    | some o =>
      by_cases z : p ∈ S
      · exact absurd e2 (ht p (hs p z))
      · rw [x.st p o z q] at e2; cases e2
abbrev RD2 := PyData → PyData → (RV → Prop) → Prop
abbrev RDn := List PyData → (RV → Prop) → Prop
/-- what the values' rule r asks follows from what the data's rule asks -/
def Br2 (K : PySem.W.Frag) (m1 m2 : Md) (r : R2) (rd : RD2) : Prop :=
  ∀ (S O : List Addr) (H : Hp) (x y : V) (d e : PyData) (Q : VK), (∀ a ∈ S, a ∈ O) → (∀ a ∈ O, H a ≠ none) →
    DM m1 K S O H x d → DM m2 K S O H y e → rd d e (fun z => ∀ v H', Same H H' → RvR K O H H' v z → Q v H') → r x y H Q
def BrN (K : PySem.W.Frag) (m : Md) (r : List V → Hp → VK → Prop) (rd : RDn) : Prop :=
  ∀ (S O : List Addr) (H : Hp) (xs : List V) (ds : List PyData) (Q : VK), (∀ a ∈ S, a ∈ O) → (∀ a ∈ O, H a ≠ none) →
    DMs m K S O H xs ds → rd ds (fun z => ∀ v H', Same H H' → RvR K O H H' v z → Q v H') → r xs H Q
def Mo2 (rd : RD2) : Prop := ∀ d e (Q Q' : RV → Prop), (∀ z, Q z → Q' z) → rd d e Q → rd d e Q'
def MoN (rd : RDn) : Prop := ∀ d (Q Q' : RV → Prop), (∀ z, Q z → Q' z) → rd d Q → rd d Q'
structure OpD (X : Cx) (f : Value → Value → Sem Value) (m1 m2 : Md) (rd : RD2) : Prop where
  ex : ∃ r, OpR X f r ∧ Br2 X.K m1 m2 r rd
  mo : Mo2 rd
structure CallD (X : Cx) (f : Value) (m : Md) (rd : RDn) : Prop where
  ex : ∃ r, CallR X f r ∧ BrN X.K m r rd
  mo : MoN rd
section
variable {X : Cx} {e a b : Expr} {es : List Expr} {m m1 m2 : Md} {pos p : Pos} {rd : RD2} {wa wb : WD}
def w2 (rd : RD2) (wa wb : WD) : WR := fun sd Q => wa sd fun d => wb sd fun e => rd d e Q
theorem w2_mo (h : Mo2 rd) (ha : Ev m1 X a wa) (hb : Ev m2 X b wb) : ∀ sd (Q Q' : RV → Prop), (∀ r, Q r → Q' r) → w2 rd wa wb sd Q → w2 rd wa wb sd Q' :=
  fun sd Q Q' k q => ha.mo _ _ _ (fun d z => hb.mo _ _ _ (fun e z => h d e _ _ k z) z) q
theorem w2_run {r : R2} (hr : Br2 X.K m1 m2 r rd) (hmo : Mo2 rd) (ha : Ev m1 X a wa) (hb : Ev m2 X b wb) {σ : L2.St} {H : Hp} {Q : VK} (q : tR X.K (w2 rd wa wb) σ H Q) :
    tOp r (tM m1 X.K wa) (tM m2 X.K wb) σ H Q := by
  obtain ⟨c, sd, os, hk, rr, q⟩ := q
  refine ⟨c, sd, os, hk, rr, ha.mo _ _ _ (fun d k v H1 x1 d1 => ⟨c, sd, os, hk, rr.grow x1, hb.mo _ _ _ (fun e k2 u H2 x2 d2 => ?_) k⟩) q⟩
  have x12 := x1.trans x2
  refine hr c.S (OO c os) H2 v u d e Q rr.sO (fun a m => (rr.grow x12).there m) (DM.grow rr.sO x2 d1) d2 (hmo _ _ _ _ (fun z kz v' H' s rv => ?_) k2)
  exact kz v' H' (x12.trans (Ext.of s)) (RvR.from rr.sO (fun a m => (rr.grow x12).there m) x12 rv)
theorem evr_op {op : Operator} (ho : OpD X (binaryOp op) m1 m2 rd) (ha : Ev m1 X a wa) (hb : Ev m2 X b wb) : EvR X (.BinOp a op b pos) (w2 rd wa wb) where
  pe := by
    obtain ⟨r, h1, h2⟩ := ho.ex
    exact PE.weak (pe_op h1 ha.pe hb.pe) fun σ H Q q => w2_run h2 ho.mo ha hb q
  mo := w2_mo ho.mo ha hb
theorem evr_cmp {op : CmpOp} (ho : OpD X (compareOp op) m1 m2 rd) (ha : Ev m1 X a wa) (hb : Ev m2 X b wb) (hm : behindInMarks op b = false := by first | exact nomark _ | rfl) :
    EvR X (.Compare a [op] [b] pos) (w2 rd wa wb) where
  pe := by
    obtain ⟨r, h1, h2⟩ := ho.ex
    exact PE.weak (pe_cmpR h1 ha.pe hb.pe hm) fun σ H Q q => w2_run h2 ho.mo ha hb q
  mo := w2_mo ho.mo ha hb
def rdInt (C : Int → Int → Prop) (g : Int → Int → PyData) : RD2 := fun d e Q => match d, e with
  | .int i, .int j => C i j ∧ Q (.va (g i j))
  | _, _ => False
theorem rdInt_mo {C : Int → Int → Prop} {g : Int → Int → PyData} : Mo2 (rdInt C g) := by
  intro d e Q Q' k q
  unfold rdInt at q ⊢
  split at q
  · exact ⟨q.1, k _ q.2⟩
  · exact q.elim
theorem shInt {K : PySem.W.Frag} {S O : List Addr} {H : Hp} {x : V} {i : Int} (h : DM .sh K S O H x (.int i)) : x = .int i := by
  cases h
  rfl
theorem shStr {K : PySem.W.Frag} {S O : List Addr} {H : Hp} {x : V} {i : Str} (h : DM .sh K S O H x (.str i)) : x = .str i := by
  cases h
  rfl
theorem shTup {K : PySem.W.Frag} {S O : List Addr} {H : Hp} {x : V} {ds : List PyData} (h : DM .sh K S O H x (.tuple ds)) : ∃ a xs, x = .ref a ∧ SqT K (hid O H) a xs ∧ DxAll K (hid O H) xs ds := by
  cases h with
  | tup h1 h2 => exact ⟨_, _, rfl, h1.sq, h2⟩
theorem shTupN {K : PySem.W.Frag} {S O : List Addr} {H : Hp} {x : V} {ds : List PyData} (h : DM .sh K S O H x (.tuple ds)) : ∃ a xs, x = .ref a ∧ SqN K (hid O H) a xs ∧ DxAll K (hid O H) xs ds := by
  cases h with
  | tup h1 h2 => exact ⟨_, _, rfl, h1, h2⟩
theorem hid_sub {O : List Addr} {H : Hp} : Same (hid O H) H := fun a o h => (hid_some h).2
theorem opd_int0 {f : Value → Value → Sem Value} {g : Int → Int → V} {g' : Int → Int → PyData} (h : OpR X f (rI0 g)) (hg : ∀ K H i j, Dx K H (g i j) (g' i j)) : OpD X f .sh .sh (rdInt (fun _ _ => True) g') where
  ex := ⟨_, h, fun S O H x y d e Q _ _ hx hy q => by
    unfold rdInt at q
    split at q
    · exact ⟨_, _, shInt hx, shInt hy, q.2 _ H (Same.refl H) (hg _ _ _ _)⟩
    · exact q.elim⟩
  mo := rdInt_mo
theorem od_sub : OpD X (binaryOp .Sub) .sh .sh (rdInt (fun _ _ => True) fun i j => .int (i - j)) := opd_int0 op_sub fun _ _ _ _ => .int _
theorem od_lt : OpD X (compareOp .Lt) .sh .sh (rdInt (fun _ _ => True) fun i j => .bool (decide (i < j))) := opd_int0 op_lt fun _ _ _ _ => .bl _
theorem od_gt : OpD X (compareOp .Gt) .sh .sh (rdInt (fun _ _ => True) fun i j => .bool (decide (j < i))) := opd_int0 op_gt fun _ _ _ _ => .bl _
/-- + of ints, texts, tuples, lists -/
def rdAdd : RD2 := fun d e Q => match d, e with
  | .int i, .int j => Q (.va (.int (i + j)))
  | .str x, .str y => x.length + y.length ≤ sizeLine ∧ Q (.va (.str (x ++ y)))
  | .tuple xs, .tuple ys => xs.length + ys.length ≤ sizeLine ∧ Q (.va (.tuple (xs ++ ys)))
  | .list xs, .list ys => xs.length + ys.length ≤ sizeLine ∧ Q (.fr (xs ++ ys))
  | _, _ => False
theorem rdAdd_mo : Mo2 rdAdd := by
  intro d e Q Q' k q
  unfold rdAdd at q ⊢
  split at q <;> first | exact k _ q | exact ⟨q.1, k _ q.2⟩ | exact q.elim
theorem rv_tup {K : PySem.W.Frag} {O : List Addr} {H : Hp} {p : Addr} {o : Obj} {xs : List V} {ds : List PyData} (hp : H p = none) (hd : o.dict = none) (hO : ∀ a ∈ O, H a ≠ none) (h : DxAll K (hid O H) xs ds) : Dx K (hid O (upd H p (.frz o (.tup xs)))) (.ref p) (.tuple ds) := by
  have np : p ∉ O := fun z => hO p z hp
  refine .tup (.inl ⟨o, by rw [hid_out np, upd_same], hd⟩) (DxAll.same (hid_same (fun a o _ e => same_new hp a o e) fun a m => .inl m) _ _ h)
theorem rv_lst {K : PySem.W.Frag} {O : List Addr} {H : Hp} {p : Addr} {xs : List V} {ds : List PyData} (hp : H p = none) (h : DxAll K (hid O H) xs ds) : RvR K O H (upd H p (.lst xs)) (.ref p) (.fr ds) := by
  refine ⟨p, xs, rfl, hp, upd_same, DxAll.same (hid_same (fun a o _ e => same_new hp a o e) fun a m => ?_) _ _ h⟩
  rcases List.mem_cons.mp m with rfl | m
  · exact .inr hp
  · exact .inl m
theorem od_add : OpD X (binaryOp .Add) .sh .sh rdAdd where
  ex := ⟨_, op_add.or (op_add_str.or (op_catN.or op_cat)), fun S O H x y d e Q hs hO hx hy q => by
    unfold rdAdd at q
    split at q
    · exact .inl ⟨_, _, shInt hx, shInt hy, q _ H (Same.refl H) (.int _)⟩
    · exact .inr (.inl ⟨_, _, shStr hx, shStr hy, q.1, q.2 _ H (Same.refl H) (.str _)⟩)
    · obtain ⟨a, us, rfl, h1, h2⟩ := shTupN hx
      obtain ⟨b, ws, rfl, h3, h4⟩ := shTupN hy
      refine .inr (.inr (.inl ⟨a, b, us, ws, rfl, rfl, SqT.same hid_sub h1.sq, SqT.same hid_sub h3.sq, by rw [h2.len, h4.len]; exact q.1, fun z => ?_, fun _ z => ?_, fun _ _ p ob hp hd => ?_⟩))
      · subst z
        cases h2
        exact q.2 _ H (Same.refl H) (.tup h3 h4)
      · subst z
        cases h4
        refine q.2 _ H (Same.refl H) ?_
        rw [List.append_nil]
        exact Dx.tup h1 h2
      · exact q.2 _ _ (same_new hp) (rv_tup hp hd hO (h2.app h4))
    · obtain ⟨a, us, rfl, h1, h2⟩ := hx
      obtain ⟨b, ws, rfl, h3, h4⟩ := hy
      exact .inr (.inr (.inr ⟨a, b, us, ws, rfl, rfl, (hid_some h1).2, (hid_some h3).2, by rw [h2.len, h4.len]; exact q.1, fun p hp => q.2 _ _ (same_new hp) (rv_lst hp (h2.app h4))⟩))
    · exact q.elim⟩
  mo := rdAdd_mo
theorem lay_of {d : PyData} (h : SeqAt.shaped d = true) : d.canLay0 = true := by
  unfold SeqAt.shaped at h
  rw [Bool.and_eq_true] at h
  exact h.1
theorem boDp {K : PySem.W.Frag} {S O : List Addr} {H : Hp} {x : V} {d : PyData} (h : DM .bo K S O H x d) (n : SeqAt.shaped d = true) : Dp K H x d := Dx.dp _ _ (Dx.same hid_sub d x h) (lay_of n)
end
end DL
set_option Elab.async false
set_option linter.all false
set_option maxRecDepth 100000
set_option maxHeartbeats 4000000
namespace DL
open PySem PySem.Spec PyProof.Rows L2
variable [Tb]
section
variable {X : Cx} {e a b : Expr} {es : List Expr} {m m1 m2 : Md} {pos p : Pos} {rd : RD2} {wa wb : WD}
structure IxD (X : Cx) (m1 m2 : Md) (rd : RD2) : Prop where
  ex : ∃ r, IxR X r ∧ Br2 X.K m1 m2 r rd
  mo : Mo2 rd
theorem evr_ix (ho : IxD X m1 m2 rd) (ha : Ev m1 X a wa) (hb : Ev m2 X b wb) (hs : PlainIx b := by exact fun _ _ => rfl) : EvR X (.Subscript a b pos) (w2 rd wa wb) where
  pe := by
    obtain ⟨r, h1, h2⟩ := ho.ex
    exact PE.weak (pe_ix h1 ha.pe hb.pe hs) fun σ H Q q => w2_run h2 ho.mo ha hb q
  mo := w2_mo ho.mo ha hb
def rdIxS : RD2 := fun d e Q => match d, e with
  | .list xs, .int i => match atI xs i with
    | some v => Q (.va v)
    | none => False
  | .tuple xs, .int i => match atI xs i with
    | some v => Q (.va v)
    | none => False
  | .str z, .int i => z.length ≤ sizeLine ∧ match atI z.cps.toList i with
    | some c => Q (.va (.str ⟨#[c]⟩))
    | none => False
  | _, _ => False
theorem rdIxS_mo : Mo2 rdIxS := by
  intro d e Q Q' k q
  unfold rdIxS at q ⊢
  split at q
  · split at q
    · exact k _ q
    · exact q.elim
  · split at q
    · exact k _ q
    · exact q.elim
  · refine ⟨q.1, ?_⟩
    have q2 := q.2
    split at q2
    · exact k _ q2
    · exact q2.elim
  · exact q.elim
theorem DxAll.atI {K : PySem.W.Frag} {H : Hp} {vs : List V} {ds : List PyData} (h : DxAll K H vs ds) {i : Int} {d : PyData} (e : L2.atI ds i = some d) : ∃ v, L2.atI vs i = some v ∧ Dx K H v d := by
  unfold L2.atI at e ⊢
  rw [h.len]
  cases q : ixN ds.length i with
  | none => rw [q] at e; cases e
  | some j =>
    rw [q] at e
    exact h.get (i := j) (d := d) e
theorem id_ixS_br : Br2 X.K .sh .sh (rIx X.K) rdIxS := fun S O H x y d e Q hs hO hx hy q => by
    unfold rdIxS at q
    split at q
    · rename_i xs i
      obtain ⟨a, us, rfl, h1, h2⟩ := hx
      cases at_ : L2.atI xs i with
      | none => rw [at_] at q; exact q.elim
      | some d =>
        rw [at_] at q
        obtain ⟨v, h3, h4⟩ := h2.atI at_
        exact .inl ⟨a, us, i, v, rfl, shInt hy, .inl (.inl (hid_some h1).2), h3, q v H (Same.refl H) h4⟩
    · rename_i xs i
      obtain ⟨a, us, rfl, h1, h2⟩ := shTup hx
      cases at_ : L2.atI xs i with
      | none => rw [at_] at q; exact q.elim
      | some d =>
        rw [at_] at q
        obtain ⟨v, h3, h4⟩ := h2.atI at_
        exact .inr (.inl ⟨a, us, i, v, rfl, shInt hy, SqT.same hid_sub h1, h3, q v H (Same.refl H) h4⟩)
    · rename_i z i
      obtain ⟨q1, q⟩ := q
      cases at_ : L2.atI z.cps.toList i with
      | none => rw [at_] at q; exact q.elim
      | some d =>
        rw [at_] at q
        exact .inr (.inr ⟨z, i, d, shStr hx, shInt hy, q1, at_, q _ H (Same.refl H) (.str _)⟩)
    · exact q.elim
theorem id_ixS : IxD X .sh .sh rdIxS := ⟨⟨_, ix_seq, id_ixS_br⟩, rdIxS_mo⟩
def lookD (es : List (PyData × PyData)) (d : PyData) : Option PyData := (es.find? fun p => p.1.eqv d).map (·.2)
def isKey : PyData → Bool
  | .int _ => true
  | .str _ => true
  | _ => false
theorem isKey_get {d : PyData} (h : isKey d = true) : ∃ k : Key, d = keyD k := by
  cases d with
  | int i => exact ⟨.inl i, rfl⟩
  | str z => exact ⟨.inr z, rfl⟩
  | _ => cases h
theorem dx_key {K : PySem.W.Frag} {H : Hp} {v : V} : ∀ {k : Key}, Dx K H v (keyD k) → v = kV k
  | .inl _, h => by cases h; rfl
  | .inr _, h => by cases h; rfl
theorem eqv_key : ∀ a b : Key, (keyD a).eqv (keyD b) = decide (a = b)
  | .inl i, .inl j => by simp only [keyD, PyData.eqv, Sum.inl.injEq]; rfl
  | .inr i, .inr j => by simp only [keyD, PyData.eqv, Sum.inr.injEq]; rfl
  | .inl i, .inr j => by simp [keyD, PyData.eqv]
  | .inr i, .inl j => by simp [keyD, PyData.eqv]
theorem lookD_val {K : PySem.W.Frag} {H : Hp} (k : Key) : ∀ (kvs : List (Key × V)) (es : List (PyData × PyData)), es.map (·.1) = kvs.map (fun p => keyD p.1) → DxAll K H (kvs.map (·.2)) (es.map (·.2)) →
    (valV kvs k = none ∧ lookD es (keyD k) = none) ∨ ∃ v d, valV kvs k = some v ∧ lookD es (keyD k) = some d ∧ Dx K H v d
  | [], [], _, _ => .inl ⟨rfl, rfl⟩
  | [], _ :: _, e, _ => by cases e
  | _ :: _, [], e, _ => by cases e
  | p :: kvs, q :: es, e, h => by
    rw [List.map_cons, List.map_cons] at e h
    injection e with e1 e2
    cases h with
    | cons h1 h2 =>
      unfold lookD
      rw [List.find?_cons, e1, eqv_key]
      by_cases z : p.1 = k
      · rw [decide_eq_true z, valV_pos z]
        exact .inr ⟨_, _, rfl, rfl, h1⟩
      · rw [decide_eq_false z, valV_neg z]
        exact lookD_val k kvs es e2 h2
theorem DE.look {K : PySem.W.Frag} {H : Hp} {o : HO} {es : List (PyData × PyData)} (h : DE K H o es) (k : Key) : ∃ kvs, o = .dK kvs ∧
    ((valV kvs k = none ∧ lookD es (keyD k) = none) ∨ ∃ v d, valV kvs k = some v ∧ lookD es (keyD k) = some d ∧ Dx K H v d) := by
  obtain ⟨vs, ⟨kvs, rfl, e1, rfl⟩, h⟩ := h
  exact ⟨kvs, rfl, lookD_val k kvs es e1 h⟩
theorem ix_dict {X : Cx} (hu : X.A.units + 1 < cLine) : IxR X (fun x y H Q => ∃ (a : Addr) (kvs : List (Key × V)) (k : Key) (v : V), x = .ref a ∧ y = kV k ∧ H a = some (.dK kvs) ∧ valV kvs k = some v ∧ Q v H) := by
  intro value slice pins s σ H x y v u Q I rx ry h hs
  obtain ⟨a, kvs, k, w, rfl, rfl, e, ev, q⟩ := h
  cases rx
  have g : DGet H a (kV k) (some w) := by rw [← ev]; exact DGet.k e
  exact tail_any (dict_typeIs I g) slot_dict_getitem.lookup (d_getItem hu I g ry fun w' s' I' r => ⟨w, H, I', r, q⟩) hs
def rdIx : RD2 := fun d e Q => match d, e with
  | .list xs, .int i => match atI xs i with
    | some v => Q (.va v)
    | none => False
  | .tuple xs, .int i => match atI xs i with
    | some v => Q (.va v)
    | none => False
  | .str z, .int i => z.length ≤ sizeLine ∧ match atI z.cps.toList i with
    | some c => Q (.va (.str ⟨#[c]⟩))
    | none => False
  | .dict es, k => isKey k = true ∧ match lookD es k with
    | some v => Q (.va v)
    | none => False
  | _, _ => False
theorem rdIx_old {d e : PyData} {Q : RV → Prop} (n : ∀ es, d ≠ .dict es) : rdIx d e Q ↔ rdIxS d e Q := by
  cases d with
  | dict es => exact absurd rfl (n es)
  | _ => cases e <;> exact Iff.rfl
theorem rdIx_mo : Mo2 rdIx := by
  intro d e Q Q' k q
  cases d with
  | dict es =>
    refine ⟨q.1, ?_⟩
    have q2 := q.2
    split at q2
    · exact k _ q2
    · exact q2.elim
  | _ => exact (rdIx_old (fun _ z => by cases z)).mpr (rdIxS_mo _ _ _ _ k ((rdIx_old (fun _ z => by cases z)).mp q))
theorem id_ix (hu : X.A.units + 64 < cLine) : IxD X .sh .sh rdIx where
  ex := ⟨_, ix_seq.or (ix_dict (Nat.lt_of_le_of_lt (by omega) hu)), fun S O H x y d e Q hs hO hx hy q => by
    have key : (∀ es, d ≠ .dict es) → rdIxS d e (fun z => ∀ v H', Same H H' → RvR X.K O H H' v z → Q v H') → rIx X.K x y H Q := fun _ q => by
      have := (id_ixS_br (X := X)) S O H x y d e Q hs hO hx hy q
      exact this
    cases d with
    | dict es =>
      obtain ⟨kb, q2⟩ := q
      obtain ⟨k, rfl⟩ := isKey_get kb
      obtain ⟨a, o, rfl, h1, h2⟩ := hx
      obtain ⟨kvs, rfl, h3 | ⟨v, d, h3, h4, h5⟩⟩ := h2.look k
      · rw [h3.2] at q2; exact q2.elim
      · rw [h4] at q2
        have hy : Dx X.K (hid O H) y (keyD k) := by cases k <;> exact hy
        exact .inr ⟨a, kvs, k, v, rfl, dx_key hy, (hid_some h1).2, h3, q2 v H (Same.refl H) h5⟩
    | _ => exact .inl (key (fun _ z => by cases z) ((rdIx_old (fun _ z => by cases z)).mp q))⟩
  mo := rdIx_mo
def cutD {α : Type} (xs : List α) (lo hi : Option Int) : List α := (xs.drop (HT.sIx xs.length 0 lo)).take (HT.sIx xs.length xs.length hi - HT.sIx xs.length 0 lo)
theorem DxAll.cut {K : PySem.W.Frag} {H : Hp} {vs : List V} {ds : List PyData} (h : DxAll K H vs ds) (lo hi : Option Int) : DxAll K H (cutV vs lo hi) (cutD ds lo hi) := by
  unfold cutV cutD
  rw [h.len]
  exact (h.drop _).take _
abbrev WO := SD → (Option Int → Prop) → Prop
def tO (K : PySem.W.Frag) (w : WO) : TO := fun σ H Q => ∃ (c : Cd) (sd : SD) (os : List (Option Addr)), c.K = K ∧ R c sd os σ H ∧
  w sd fun r => ∀ H', Ext c.S H H' → Q r H'
structure EvO (X : Cx) (e : Option Expr) (w : WO) : Prop where
  po : PO X e (tO X.K w)
  mo : ∀ sd (Q Q' : Option Int → Prop), (∀ r, Q r → Q' r) → w sd Q → w sd Q'
theorem PO.weak {e : Option Expr} {t t' : TO} (h : PO X e t) (k : ∀ σ H Q, t' σ H Q → t σ H Q) : PO X e t' :=
  ⟨fun pins s σ H Q I q => h.run pins s σ H Q I (k σ H Q q)⟩
theorem evo_none : EvO X none (fun _ Q => Q none) :=
  ⟨PO.weak po_none fun σ H Q ⟨c, sd, os, hk, r, q⟩ => q H Ext.refl, fun _ _ _ k q => k _ q⟩
def wPart (w : WD) : WO := fun sd Q => w sd fun d => match d with
  | .int i => Q (some i)
  | _ => False
theorem evo_some {w : WD} (h : Ev .sh X e w) : EvO X (some e) (wPart w) where
  po := PO.weak (po_some h.pe) fun σ H Q ⟨c, sd, os, hk, r, q⟩ => ⟨c, sd, os, hk, r, h.mo _ _ _ (fun d k v H' x dm => by
    cases d with
    | int i => exact ⟨i, shInt dm, k H' x⟩
    | _ => exact k.elim) q⟩
  mo := fun sd Q Q' k q => h.mo _ _ _ (fun d z => by
    cases d with
    | int i => exact k _ z
    | _ => exact z.elim) q
def rdSl (d : PyData) (lo hi : Option Int) (Q : RV → Prop) : Prop := match d with
  | .list xs => Q (.fr (cutD xs lo hi))
  | .tuple xs => Q (.va (.tuple (cutD xs lo hi)))
  | .str z => z.length ≤ sizeLine ∧ Q (.va (.str (cutS z lo hi)))
  | _ => False
theorem evr_slice {lo hi : Option Expr} {p2 : Pos} {wl wh : WO} (ha : Ev .sh X a wa) (hl : EvO X lo wl) (hh : EvO X hi wh) :
    EvR X (.Subscript a (.Slice lo hi none p2) pos) (fun sd Q => wa sd fun d => wl sd fun l => wh sd fun h => rdSl d l h Q) where
  pe := PE.weak (pe_slice (sl_list.or (sl_tupN.or sl_str)) ha.pe hl.po hh.po) fun σ H Q ⟨c, sd, os, hk, r, q⟩ =>
    ⟨c, sd, os, hk, r, ha.mo _ _ _ (fun d k v H1 x1 d1 => ⟨c, sd, os, hk, r.grow x1, hl.mo _ _ _ (fun l k2 H2 x2 =>
      ⟨c, sd, os, hk, r.grow (x1.trans x2), hh.mo _ _ _ (fun h k3 H3 x3 => by
        have x := (x1.trans x2).trans x3
        have rr := r.grow x
        have d3 := DM.grow r.sO (x2.trans x3) d1
        have ht : ∀ a ∈ OO c os, H3 a ≠ none := fun a m => rr.there m
        unfold rdSl at k3
        split at k3
        · obtain ⟨a, us, rfl, h1, h2⟩ := d3
          exact .inl ⟨a, us, rfl, .inl (.inl (hid_some h1).2), fun p hp => k3 _ _ (x.trans (Ext.of (same_new hp))) (RvR.from r.sO ht x (rv_lst hp (h2.cut _ _)))⟩
        · obtain ⟨a, us, rfl, h1, h2⟩ := shTupN d3
          refine .inr (.inl ⟨a, us, rfl, SqT.same hid_sub h1.sq, fun z => ?_, fun _ p ob hp hd => k3 _ _ (x.trans (Ext.of (same_new hp))) (rv_tup hp hd ht (h2.cut _ _))⟩)
          refine k3 _ H3 x (.tup h1 ?_)
          have e : cutV us l h = us := by
            unfold cutV
            rw [z.1, z.2]
            simp
          rw [← e]
          exact h2.cut _ _
        · exact .inr (.inr ⟨_, shStr d3, k3.1, k3.2 _ H3 x (.str _)⟩)
        · exact k3.elim) k2⟩) k⟩) q⟩
  mo := fun sd Q Q' k q => ha.mo _ _ _ (fun d z => hl.mo _ _ _ (fun l z => hh.mo _ _ _ (fun h z => by
    unfold rdSl at z ⊢
    split at z <;> first | exact k _ z | exact ⟨z.1, k _ z.2⟩ | exact z.elim) z) z) q
end
end DL
set_option Elab.async false
set_option linter.all false
set_option maxRecDepth 100000
set_option maxHeartbeats 4000000
namespace DL
open PySem PySem.Spec PyProof.Rows L2
variable [Tb]
inductive AV where
  | va (d : PyData)
  | so
  | fn (f : Addr)
inductive DAs (m : Md) (K : PySem.W.Frag) (S O : List Addr) (H : Hp) : List V → List AV → Prop
  | nil : DAs m K S O H [] []
  | va {v : V} {vs : List V} {d : PyData} {as : List AV} : DM m K S O H v d → DAs m K S O H vs as → DAs m K S O H (v :: vs) (.va d :: as)
  | so {x y : Addr} {vs : List V} {as : List AV} : S = x :: y :: Tb.Ts → DAs m K S O H vs as → DAs m K S O H (V.ref x :: vs) (.so :: as)
  | fn {f : Addr} {vs : List V} {as : List AV} : DAs m K S O H vs as → DAs m K S O H (V.ref f :: vs) (.fn f :: as)
theorem DAs.grow {m : Md} {K : PySem.W.Frag} {S O : List Addr} {H H' : Hp} (hs : ∀ a ∈ S, a ∈ O) (x : Ext S H H') : ∀ {vs : List V} {ds : List AV}, DAs m K S O H vs ds → DAs m K S O H' vs ds
  | _, _, .nil => .nil
  | _, _, .va h t => .va (DM.grow hs x h) (DAs.grow hs x t)
  | _, _, .so h t => .so h (DAs.grow hs x t)
  | _, _, .fn t => .fn (DAs.grow hs x t)
theorem DAs.bo {K : PySem.W.Frag} {S O : List Addr} {H : Hp} : ∀ {vs : List V} {ds : List AV}, DAs .bo K S O H vs ds → DAs .cl K S S H vs ds
  | _, _, .nil => .nil
  | _, _, .va h t => .va h (DAs.bo t)
  | _, _, .so h t => .so h (DAs.bo t)
  | _, _, .fn t => .fn (DAs.bo t)
theorem DAs.len {m : Md} {K : PySem.W.Frag} {S O : List Addr} {H : Hp} : ∀ {vs : List V} {ds : List AV}, DAs m K S O H vs ds → vs.length = ds.length
  | _, _, .nil => rfl
  | _, _, .va h t => by rw [List.length_cons, List.length_cons, DAs.len t]
  | _, _, .so h t => by rw [List.length_cons, List.length_cons, DAs.len t]
  | _, _, .fn t => by rw [List.length_cons, List.length_cons, DAs.len t]
abbrev FSp := List AV → (RV → Prop) → Prop
def MoF (fs : FSp) : Prop := ∀ as (Q Q' : RV → Prop), (∀ r, Q r → Q' r) → fs as Q → fs as Q'
/-- a def's promise in data -/
def PSp (K : PySem.W.Frag) (n : Nat) (fs : FSp) : Sp := fun vs H Q _ => ∃ (S Oc : List Addr) (as : List AV), SrcOk H S ∧ (∀ a ∈ S, a ∈ Oc) ∧ OcOk H S Oc ∧
  DAs .cl K S Oc H vs as ∧ as.length = n ∧ fs as fun r => ∀ v H', Ext S H H' → RvR K Oc H H' v r → Q v H'
abbrev WA := SD → (List AV → Prop) → Prop
def tAr (m : Md) (K : PySem.W.Frag) (w : WA) : TA := fun σ H Q => ∃ (c : Cd) (sd : SD) (os : List (Option Addr)), c.K = K ∧ R c sd os σ H ∧
  w sd fun ds => ∀ vs H', Ext c.S H H' → DAs m K c.S (OO c os) H' vs ds → Q vs H'
structure EvA (m : Md) (X : Cx) (es : List Expr) (w : WA) : Prop where
  pa : PA X es (tAr m X.K w)
  mo : ∀ sd (Q Q' : List AV → Prop), (∀ r, Q r → Q' r) → w sd Q → w sd Q'
mutual
def noL : PyData → Bool
  | .list _ => false
  | .dict _ => false
  | .tuple ds => noLs ds
  | _ => true
def noLs : List PyData → Bool
  | [] => true
  | d :: ds => noL d && noLs ds
end
section
variable {K : PySem.W.Frag} {S O : List Addr} {H : Hp}
theorem SqN.out {a : Addr} {xs : List V} (oc : OcOk H S O) (h : SqN K (hid S H) a xs) : SqN K (hid O H) a xs := by
  rcases h with ⟨o, h, d⟩ | h
  · refine .inl ⟨o, ?_, d⟩
    obtain ⟨m, e⟩ := hid_some h
    rw [hid_out]
    · exact e
    · intro z
      rcases oc a z with q | ⟨o, q, w⟩
      · exact m q
      · rw [e] at q; cases q; exact w.2 _ _ rfl
  · exact .inr h
theorem SqT.out {a : Addr} {xs : List V} (oc : OcOk H S O) (h : SqT K (hid S H) a xs) : SqT K (hid O H) a xs := by
  have key : ∀ {u : HO}, hid S H a = some u → ¬ IsOwn u → hid O H a = some u := by
    intro u e n
    obtain ⟨m, e⟩ := hid_some e
    rw [hid_out]
    · exact e
    · intro z
      rcases oc a z with q | ⟨o, q, w⟩
      · exact m q
      · rw [e] at q; cases q; exact n w
  rcases h with (h | ⟨o, h⟩) | h
  · exact .inl (.inl (key h fun z => z.1 _ rfl))
  · exact .inl (.inr ⟨o, key h fun z => z.2 _ _ rfl⟩)
  · exact .inr h
mutual
theorem Dx.out (oc : OcOk H S O) : ∀ (d : PyData) (v : V), Dx K (hid S H) v d → noL d = true → Dx K (hid O H) v d
  | _, _, .non, _ => .non
  | _, _, .bl b, _ => .bl b
  | _, _, .int i, _ => .int i
  | _, _, .str x, _ => .str x
  | _, _, .lst _ _, n => by simp [noL] at n
  | _, _, .dct _ _ _, n => by simp [noL] at n
  | _, _, .tup (ds := ds) h q, n => .tup (SqN.out oc h) (DxAll.out oc ds _ q (by simpa [noL] using n))
theorem DxAll.out (oc : OcOk H S O) : ∀ (ds : List PyData) (vs : List V), DxAll K (hid S H) vs ds → noLs ds = true → DxAll K (hid O H) vs ds
  | _, _, .nil, _ => .nil
  | _, _, .cons (d := d) (ds := ds) h q, n => by
    simp only [noLs, Bool.and_eq_true] at n
    exact .cons (Dx.out oc d _ h n.1) (DxAll.out oc ds _ q n.2)
end
end
section
variable {X : Cx} {e a b : Expr} {es : List Expr} {m m1 m2 : Md} {pos p : Pos}
theorem eva_nil : EvA m X [] (fun _ Q => Q []) :=
  ⟨PA.weak pa_nil fun σ H Q ⟨c, sd, os, hk, r, q⟩ => q [] H Ext.refl .nil, fun _ _ _ k q => k _ q⟩
theorem eva_cons {w : WD} {ws : WA} (h : Ev m X e w) (t : EvA m X es ws) (hs : starEach (e :: es) X.env = (false, eval e X.env) :: starEach es X.env := by rfl) :
    EvA m X (e :: es) (fun sd Q => w sd fun d => ws sd fun ds => Q (.va d :: ds)) where
  pa := PA.weak (pa_cons h.pe t.pa hs) fun σ H Q ⟨c, sd, os, hk, r, q⟩ =>
    ⟨c, sd, os, hk, r, h.mo _ _ _ (fun d k v H1 x1 d1 => ⟨c, sd, os, hk, r.grow x1, t.mo _ _ _ (fun ds k2 vs H2 x2 d2 =>
      k2 (v :: vs) H2 (x1.trans x2) (.va (DM.grow r.sO x2 d1) d2)) k⟩) q⟩
  mo := fun sd Q Q' k q => h.mo _ _ _ (fun d z => t.mo _ _ _ (fun ds z => k _ z) z) q
def wSo (i : Nat) (ws : WA) : WA := fun sd Q => match getS sd i with
  | .so => ws sd fun ds => Q (.so :: ds)
  | _ => False
theorem eva_so {ws : WA} {x : Str} (i : Nat) (t : EvA m X es ws) (hN : X.N[i]? = some x := by rfl)
    (hv : Vis X.env.scope x := by first | exact Or.inl rfl | exact Or.inr (Or.inl rfl) | exact Or.inr (Or.inr rfl))
    (hd : (x == ("__debug__" : Str)) = false := by decide) (hcd : (x == ("__classdict__" : Str)) = false := by decide)
    (hs : starEach (.Name x pos :: es) X.env = (false, eval (.Name x pos) X.env) :: starEach es X.env := by rfl) : EvA m X (.Name x pos :: es) (wSo i ws) where
  pa := PA.weak (pa_cons (pe_var hN hv hd hcd) t.pa hs) fun σ H Q ⟨c, sd, os, hk, r, q⟩ => by
    unfold wSo at q
    cases e : getS sd i with
    | so =>
      rw [e] at q
      obtain ⟨v, oa, h1, h2, h3, x, y, h4, rfl⟩ := r.at_ e (by intro z; cases z)
      exact ⟨_, h1, c, sd, os, hk, r, t.mo _ _ _ (fun ds k2 vs H2 x2 d2 => k2 _ H2 x2 (.so h4 d2)) q⟩
    | un => rw [e] at q; exact q.elim
    | fn _ => rw [e] at q; exact q.elim
    | od _ => rw [e] at q; exact q.elim
    | va d => rw [e] at q; exact q.elim
    | ow ds => rw [e] at q; exact q.elim
  mo := fun sd Q Q' k q => by
    unfold wSo at q ⊢
    cases e : getS sd i with
    | so => rw [e] at q; exact t.mo _ _ _ (fun ds z => k _ z) q
    | fn _ => rw [e] at q; exact q.elim
    | od _ => rw [e] at q; exact q.elim
    | un => rw [e] at q; exact q.elim
    | va d => rw [e] at q; exact q.elim
    | ow ds => rw [e] at q; exact q.elim
section
variable {k n : Nat} {f : Addr} {fd : FuncData} {ps : List Str} {fs : FSp} {x : Str} {wa : WA}
theorem evr_call (F : FnG X.prog X.w X.K X.mg X.base CX0 k f fd ps (PSp X.K n fs)) (hmo : MoF fs) (hr : RmG k X.A) (hm : X.mg x = some (.ref f))
    (hk : PySem.W.keepIn X.K (.ref f) = true) (hb : Binds X.K fd ps []) (ha : EvA .cl X (e :: es) wa) (hg : Gl X x := by rfl)
    (hdb : (x == ("__debug__" : Str)) = false := by decide)
    (he : starEach (e :: es) X.env = (false, eval e X.env) :: starEach es X.env := by rfl)
    (hpl : (backTo pos (starEach es X.env)).any (·.1) = false := by rfl) :
    EvR X (.Call (.Name x p) (e :: es) [] pos) (fun sd Q => wa sd fun as => as.length = n ∧ fs as Q) where
  pe := PE.weak (pe_callG F hr hg hm hk hb pass0 ha.pa hdb he hpl) fun σ H Q ⟨c, sd, os, hk, r, q⟩ =>
    ⟨c, sd, os, hk, r, ha.mo _ _ _ (fun as kq vs H1 x1 d1 => ⟨c.S, OO c os, as, (r.grow x1).srcNow, r.sO, (r.grow x1).ocNow, d1, kq.1, hmo _ _ _ (fun z kz v H' x2 rv =>
      kz v H' (x1.trans x2) (RvR.from r.sO (fun a m => (r.grow x1).there m) x1 rv)) kq.2⟩) q⟩
  mo := fun sd Q Q' k q => ha.mo _ _ _ (fun as z => ⟨z.1, hmo _ _ _ k z.2⟩) q
end
section
variable {rd : RDn} {wl : WL} {x : Str}
theorem wn_run {r : List V → Hp → VK → Prop} (hr : BrN X.K m r rd) (hmo : MoN rd) (ha : EvL m X es wl) {σ : L2.St} {H : Hp} {Q : VK} (q : tR X.K (fun sd Q => wl sd fun ds => rd ds Q) σ H Q) :
    tLi m X.K wl σ H fun xs H1 => r xs H1 Q := by
  obtain ⟨c, sd, os, hk, rr, q⟩ := q
  refine ⟨c, sd, os, hk, rr, ha.mo _ _ _ (fun ds k vs H1 x1 d1 => ?_) q⟩
  exact hr c.S (OO c os) H1 vs ds Q rr.sO (fun a m => (rr.grow x1).there m) d1 (hmo _ _ _ (fun z kz v' H' s rv => kz v' H' (x1.trans (Ext.of s)) (RvR.from rr.sO (fun a m => (rr.grow x1).there m) x1 rv)) k)
theorem evr_blt {id : String} (hc : CallD X (.builtin id) m rd) (hm : X.mg x = none) (hv : bootBuiltins x = some (.builtin id)) (ha : EvL m X (e :: es) wl) (hg : Gl X x := by rfl) (hn : x ≠ "__name__" := by decide) (hdb : (x == ("__debug__" : Str)) = false := by decide)
    (he : starEach (e :: es) X.env = (false, eval e X.env) :: starEach es X.env := by rfl) (hpl : (backTo pos (starEach es X.env)).any (·.1) = false := by rfl) :
    EvR X (.Call (.Name x p) (e :: es) [] pos) (fun sd Q => wl sd fun ds => rd ds Q) where
  pe := by
    obtain ⟨r, h1, h2⟩ := hc.ex
    exact PE.weak (pe_callB h1 hg hm hv ha.pa (hn := hn) (hdb := hdb) (he := he) (hpl := hpl)) fun σ H Q q => wn_run h2 hc.mo ha q
  mo := fun sd Q Q' k q => ha.mo _ _ _ (fun ds z => hc.mo _ _ _ k z) q
theorem evr_typ {id : String} (hc : CallD X (.type id) m rd) (hm : X.mg x = none) (hv : bootBuiltins x = some (.type id)) (ha : EvL m X (e :: es) wl) (hg : Gl X x := by rfl) (hn : x ≠ "__name__" := by decide) (hdb : (x == ("__debug__" : Str)) = false := by decide)
    (he : starEach (e :: es) X.env = (false, eval e X.env) :: starEach es X.env := by rfl) (hpl : (backTo pos (starEach es X.env)).any (·.1) = false := by rfl) :
    EvR X (.Call (.Name x p) (e :: es) [] pos) (fun sd Q => wl sd fun ds => rd ds Q) where
  pe := by
    obtain ⟨r, h1, h2⟩ := hc.ex
    exact PE.weak (pe_callTy h1 hg hm hv ha.pa (hn := hn) (hdb := hdb) (he := he) (hpl := hpl)) fun σ H Q q => wn_run h2 hc.mo ha q
  mo := fun sd Q Q' k q => ha.mo _ _ _ (fun ds z => hc.mo _ _ _ k z) q
end
end
end DL
set_option Elab.async false
set_option linter.all false
set_option maxRecDepth 100000
set_option maxHeartbeats 4000000
namespace DL
open PySem PySem.Spec PyProof.Rows L2
variable [Tb]
section
variable {X : Cx} {e a b : Expr} {es : List Expr} {m m1 m2 : Md} {pos p : Pos}
def rd1 (f : PyData → (RV → Prop) → Prop) : RDn := fun ds Q => match ds with
  | [d] => f d Q
  | _ => False
theorem rd1_mo {f : PyData → (RV → Prop) → Prop} (h : ∀ d (Q Q' : RV → Prop), (∀ z, Q z → Q' z) → f d Q → f d Q') : MoN (rd1 f) := by
  intro ds Q Q' k q
  unfold rd1 at q ⊢
  split at q
  · exact h _ _ _ k q
  · exact q.elim
theorem rd1_br {K : PySem.W.Frag} {r : List V → Hp → VK → Prop} {f : PyData → (RV → Prop) → Prop}
    (h : ∀ (S O : List Addr) (H : Hp) (x : V) (d : PyData) (Q : VK), (∀ a ∈ S, a ∈ O) → (∀ a ∈ O, H a ≠ none) → DM m K S O H x d → f d (fun z => ∀ v H', Same H H' → RvR K O H H' v z → Q v H') → r [x] H Q) :
    BrN K m r (rd1 f) := by
  intro S O H xs ds Q hs hO hd q
  unfold rd1 at q
  split at q
  · cases hd with
    | cons h1 h2 =>
      cases h2
      exact h S O H _ _ Q hs hO h1 q
  · exact q.elim
def dLen (d : PyData) (Q : RV → Prop) : Prop := match d with
  | .list xs => Q (.va (.int xs.length))
  | .tuple xs => Q (.va (.int xs.length))
  | .str z => z.length ≤ sizeLine ∧ Q (.va (.int z.length))
  | _ => False
theorem cd_len : CallD X (.builtin "len") .sh (rd1 dLen) where
  ex := ⟨_, call_len_seq.or call_len_str, rd1_br fun S O H x d Q hs hO hd q => by
    unfold dLen at q
    split at q
    · obtain ⟨a, us, rfl, h1, h2⟩ := hd
      exact .inl ⟨a, us, rfl, .inl (.inl (.inl (hid_some h1).2)), q _ H (Same.refl H) (by rw [h2.len]; exact Dx.int _)⟩
    · obtain ⟨a, us, rfl, h1, h2⟩ := shTup hd
      exact .inl ⟨a, us, rfl, .inr (SqT.same hid_sub h1), q _ H (Same.refl H) (by rw [h2.len]; exact Dx.int _)⟩
    · exact .inr ⟨_, by rw [shStr hd], q.1, q.2 _ H (Same.refl H) (.int _)⟩
    · exact q.elim⟩
  mo := rd1_mo fun d Q Q' k q => by
    unfold dLen at q ⊢
    split at q <;> first | exact k _ q | exact ⟨q.1, k _ q.2⟩ | exact q.elim
def dTuple (d : PyData) (Q : RV → Prop) : Prop := match d with
  | .list xs => Q (.va (.tuple xs))
  | .tuple xs => Q (.va (.tuple xs))
  | _ => False
theorem cd_tuple : CallD X (.type "tuple") .sh (rd1 dTuple) where
  ex := ⟨_, call_tupleN, rd1_br fun S O H x d Q hs hO hd q => by
    unfold dTuple at q
    split at q
    · obtain ⟨a, us, rfl, h1, h2⟩ := hd
      exact ⟨a, us, rfl, .inl ⟨.inl (.inl (hid_some h1).2), fun p ob hp hd => q _ _ (same_new hp) (rv_tup hp hd hO h2)⟩⟩
    · obtain ⟨a, us, rfl, h1, h2⟩ := shTupN hd
      exact ⟨a, us, rfl, .inr ⟨SqT.same hid_sub h1.sq, q _ H (Same.refl H) (.tup h1 h2)⟩⟩
    · exact q.elim⟩
  mo := rd1_mo fun d Q Q' k q => by
    unfold dTuple at q ⊢
    split at q <;> first | exact k _ q | exact q.elim
def dList (d : PyData) (Q : RV → Prop) : Prop := match d with
  | .list xs => Q (.fr xs)
  | .tuple xs => Q (.fr xs)
  | _ => False
theorem cd_list : CallD X (.type "list") .sh (rd1 dList) where
  ex := ⟨_, call_list_of, rd1_br fun S O H x d Q hs hO hd q => by
    unfold dList at q
    split at q
    · obtain ⟨a, us, rfl, h1, h2⟩ := hd
      exact ⟨a, us, rfl, .inl (.inl (.inl (hid_some h1).2)), fun p hp => q _ _ (same_new hp) (rv_lst hp h2)⟩
    · obtain ⟨a, us, rfl, h1, h2⟩ := shTup hd
      exact ⟨a, us, rfl, .inr (SqT.same hid_sub h1), fun p hp => q _ _ (same_new hp) (rv_lst hp h2)⟩
    · exact q.elim⟩
  mo := rd1_mo fun d Q Q' k q => by
    unfold dList at q ⊢
    split at q <;> first | exact k _ q | exact q.elim
/-- the text of data -/
def okShow (d : PyData) : Prop := (d.showable = true ∧ SeqAt.shaped d = true) ∧ d.shown.length ≤ sizeLine
def dInt (d : PyData) (Q : RV → Prop) : Prop := match d with
  | .int i => Q (.va (.int i))
  | .bool b => Q (.va (.int (if b then 1 else 0)))
  | _ => False
theorem ev_tup {wl : WL} {x1} (h : EvL .cl X es wl) : EvR X (.Tuple es x1 pos) (fun sd Q => wl sd fun ds => ds.length ≤ sizeLine ∧ Q (.va (.tuple ds))) where
  pe := PE.weak (pe_tupN h.pa) fun σ H Q ⟨c, sd, os, hk, r, q⟩ => ⟨c, sd, os, hk, r, h.mo _ _ _ (fun ds k vs H1 x1 d1 => by
    have da := DMs.all r.sO d1
    refine ⟨by rw [da.len]; exact k.1, fun p ob hp hd => k.2 _ _ (x1.trans (Ext.of (same_new hp))) (rv_tup hp hd (fun a m => (r.grow x1).there m) da)⟩) q⟩
  mo := fun sd Q Q' k q => h.mo _ _ _ (fun ds z => ⟨z.1, k _ z.2⟩) q
theorem ev_lst {wl : WL} (h : EvL .cl X es wl) : EvR X (.List es pos) (fun sd Q => wl sd fun ds => ds.length ≤ sizeLine ∧ Q (.fr ds)) where
  pe := PE.weak (pe_lst h.pa) fun σ H Q ⟨c, sd, os, hk, r, q⟩ => ⟨c, sd, os, hk, r, h.mo _ _ _ (fun ds k vs H1 x1 d1 => by
    have da := DMs.all r.sO d1
    refine ⟨by rw [da.len]; exact k.1, fun p hp => k.2 _ _ (x1.trans (Ext.of (same_new hp))) (RvR.from r.sO (fun a m => (r.grow x1).there m) x1 (rv_lst hp da))⟩) q⟩
  mo := fun sd Q Q' k q => h.mo _ _ _ (fun ds z => ⟨z.1, k _ z.2⟩) q
def truD : PyData → Option Bool
  | .none => some false
  | .bool b => some b
  | .int i => some (i != 0)
  | .list ds => some (!ds.isEmpty)
  | .tuple ds => some (!ds.isEmpty)
  | _ => none
def wTru (w : WD) : WB := fun sd Q => w sd fun d => match truD d with
  | some b => Q b
  | none => False
theorem DxAll.emp {K : PySem.W.Frag} {H : Hp} {vs : List V} {ds : List PyData} (h : DxAll K H vs ds) : vs.isEmpty = ds.isEmpty := by
  cases h <;> rfl
theorem tru_run {w : WD} (h : Ev .sh X e w) {σ : L2.St} {H : Hp} {Q : Bool → Hp → Prop} (q : tTe X.K (wTru w) σ H Q) : tM .sh X.K w σ H fun x H' => ∃ k, TruV X.K x H' k ∧ Q k H' := by
  obtain ⟨c, sd, os, hk, r, q⟩ := q
  refine ⟨c, sd, os, hk, r, h.mo _ _ _ (fun d k v H1 x1 dm => ?_) q⟩
  cases d with
  | none => cases dm; exact ⟨_, rfl, k H1 x1⟩
  | bool b => cases dm; exact ⟨_, rfl, k H1 x1⟩
  | int i => cases dm; exact ⟨_, rfl, k H1 x1⟩
  | str z => exact k.elim
  | dict z => exact k.elim
  | list ds =>
    obtain ⟨a, us, rfl, h1, h2⟩ := dm
    exact ⟨_, .inl ⟨us, .inl (.inl (hid_some h1).2), by rw [h2.emp]⟩, k H1 x1⟩
  | tuple ds =>
    obtain ⟨a, us, rfl, h1, h2⟩ := shTup dm
    exact ⟨_, .inr (.inl ⟨us, SqT.same hid_sub h1, by rw [h2.emp]⟩), k H1 x1⟩
theorem evt_tru {w : WD} (h : Ev .sh X e w) (he : ∀ whole, isTrue e X.env whole = (do let v ← whole; standAt e.pos; holding [v] (truthy v)) := by intro _; rfl) : EvT X e (wTru w) where
  pt := PT.weak (pt_truth h.pe he) fun σ H Q q => tru_run h q
  mo := fun sd Q Q' k q => h.mo _ _ _ (fun d z => by
    cases q : truD d with
    | none => rw [q] at z; exact z.elim
    | some b => rw [q] at z; exact k _ z) q
def wBo (w : WR) : WB := fun sd Q => w sd fun r => match r with
  | .va (.bool b) => Q b
  | _ => False
theorem evt_cmp {op : CmpOp} {rd : RD2} {wa wb : WD} (ho : OpD X (compareOp op) m1 m2 rd) (ha : Ev m1 X a wa) (hb : Ev m2 X b wb) (hm : behindInMarks op b = false := by first | exact nomark _ | rfl) :
    EvT X (.Compare a [op] [b] pos) (wBo (w2 rd wa wb)) where
  pt := by
    obtain ⟨r, h1, h2⟩ := ho.ex
    refine PT.weak (pt_cmpR h1 ha.pe hb.pe hm) fun σ H Q q => ?_
    refine w2_run h2 ho.mo ha hb ?_
    obtain ⟨c, sd, os, hk, rr, q⟩ := q
    refine ⟨c, sd, os, hk, rr, w2_mo ho.mo ha hb _ _ _ (fun z kz v H' x rv => ?_) q⟩
    cases z with
    | fr ds => exact kz.elim
    | fd _ => exact kz.elim
    | va d =>
      cases d with
      | bool b => cases rv; exact ⟨b, rfl, kz H' x⟩
      | _ => exact kz.elim
  mo := fun sd Q Q' k q => w2_mo ho.mo ha hb _ _ _ (fun z y => by
    cases z with
    | fr ds => exact y.elim
    | fd _ => exact y.elim
    | va d =>
      cases d with
      | bool b => exact k _ y
      | _ => exact y.elim) q
structure EvW (X : Cx) (e : Expr) (w : WB) : Prop where
  pw : PW X e (tTe X.K w)
  mo : ∀ sd (Q Q' : Bool → Prop), (∀ r, Q r → Q' r) → w sd Q → w sd Q'
theorem PW.weak {X : Cx} {e : Expr} {t t' : TT} (h : PW X e t) (k : ∀ σ H Q, t' σ H Q → t σ H Q) : PW X e t' :=
  ⟨fun wh pins s σ H Q I q => h.run wh pins s σ H Q I (k σ H Q q)⟩
theorem EvW.t {w : WB} (h : EvW X e w) : EvT X e w := ⟨h.pw.pt, h.mo⟩
def wAnd (w u : WB) : WB := fun sd Q => w sd fun c => if c = true then u sd Q else Q false
def wOr (w u : WB) : WB := fun sd Q => w sd fun c => if c = true then Q true else u sd Q
def wNot (w : WB) : WB := fun sd Q => w sd fun c => Q (!c)
def wAndV (w u : WR) : WR := fun sd Q => w sd fun r => match r with
  | .va (.bool c) => if c = true then u sd Q else Q (.va (.bool false))
  | _ => False
def wOrV (w u : WR) : WR := fun sd Q => w sd fun r => match r with
  | .va (.bool c) => if c = true then Q (.va (.bool true)) else u sd Q
  | _ => False
def wIf {α : Type} (t : WB) (u v : SD → (α → Prop) → Prop) : SD → (α → Prop) → Prop := fun sd Q => t sd fun c => if c = true then u sd Q else v sd Q
theorem evr_if {c : Expr} {t : WB} {u v : WR} (hc : EvT X c t) (ha : EvR X a u) (hb : EvR X b v) : EvR X (.IfExp c a b pos) (wIf t u v) where
  pe := PE.weak (pe_ifExp hc.pt ha.pe hb.pe) fun σ H Q ⟨c, sd, os, hk, r, q⟩ => ⟨c, sd, os, hk, r, hc.mo _ _ _ (fun d k H1 x1 => by
    cases d with
    | true => exact ⟨c, sd, os, hk, r.grow x1, ha.mo _ _ _ (fun y k2 v H2 x2 rv => k2 v H2 (x1.trans x2) (RvR.from r.sO (fun a m => (r.grow x1).there m) x1 rv)) k⟩
    | false => exact ⟨c, sd, os, hk, r.grow x1, hb.mo _ _ _ (fun y k2 v H2 x2 rv => k2 v H2 (x1.trans x2) (RvR.from r.sO (fun a m => (r.grow x1).there m) x1 rv)) k⟩) q⟩
  mo := fun sd Q Q' k q => hc.mo _ _ _ (fun d z => by
    cases d with
    | true => exact ha.mo _ _ _ k z
    | false => exact hb.mo _ _ _ k z) q
def isNon : PyData → Bool
  | .none => true
  | _ => false
def wIsN (w : WD) (neg : Bool) : WR := fun sd Q => w sd fun d => Q (.va (.bool (if neg then !isNon d else isNon d)))
end
end DL
set_option Elab.async false
set_option linter.all false
set_option maxRecDepth 100000
set_option maxHeartbeats 4000000
namespace DL
open PySem PySem.Spec PyProof.Rows L2
variable [Tb]
/-- what is wanted behind a statement -/
structure ED where
  nx : SD → Prop
  rt : RV → Prop
  bk : SD → Prop
  ct : SD → Prop
abbrev WS := ED → SD → Prop
/-- the wish in data is one over values -/
structure ER (c : Cd) (E : ED) (D : Ends) : Prop where
  nx : ∀ sd os σ H, R c sd os σ H → E.nx sd → D.nx σ H
  bk : ∀ sd os σ H, R c sd os σ H → E.bk sd → D.bk σ H
  ct : ∀ sd os σ H, R c sd os σ H → E.ct sd → D.ct σ H
  rt : ∀ z v H, Ext c.S c.H0 H → RvR c.K c.Oc c.H0 H v z → E.rt z → D.rt v H
def tSt (K : PySem.W.Frag) (w : WS) : TS := fun D σ H => ∃ (c : Cd) (sd : SD) (os : List (Option Addr)) (E : ED), c.K = K ∧ R c sd os σ H ∧ ER c E D ∧ w E sd
structure EvS (X : Cx) (st : Stmt) (w : WS) : Prop where
  ps : PS X st (tSt X.K w)
  mo : ∀ (E E' : ED) sd, (∀ sd, E.nx sd → E'.nx sd) → (∀ z, E.rt z → E'.rt z) → (∀ sd, E.bk sd → E'.bk sd) → (∀ sd, E.ct sd → E'.ct sd) → w E sd → w E' sd
structure EvB (X : Cx) (sts : List Stmt) (w : WS) : Prop where
  ps : PSs X sts (tSt X.K w)
  mo : ∀ (E E' : ED) sd, (∀ sd, E.nx sd → E'.nx sd) → (∀ z, E.rt z → E'.rt z) → (∀ sd, E.bk sd → E'.bk sd) → (∀ sd, E.ct sd → E'.ct sd) → w E sd → w E' sd
theorem PS.weak {X : Cx} {e : Stmt} {t t' : TS} (h : PS X e t) (k : ∀ D σ H, t' D σ H → t D σ H) : PS X e t' :=
  ⟨fun pins s σ H D I q => h.run pins s σ H D I (k D σ H q)⟩
theorem PSs.weak {X : Cx} {e : List Stmt} {t t' : TS} (h : PSs X e t) (k : ∀ D σ H, t' D σ H → t D σ H) : PSs X e t' :=
  ⟨fun pins s σ H D I q => h.run pins s σ H D I (k D σ H q)⟩
section
variable {X : Cx} {e a b : Expr} {es : List Expr} {m m1 m2 : Md} {pos p : Pos} {st : Stmt} {rest : List Stmt} {w u : WS}
theorem evb_nil : EvB X [] (fun E sd => E.nx sd) where
  ps := PSs.weak pss_nil fun D σ H ⟨c, sd, os, E, hk, r, er, q⟩ => er.nx _ _ _ _ r q
  mo := fun E E' sd h _ _ _ q => h _ q
theorem evb_cons (h : EvS X st w) (t : EvB X rest u) : EvB X (st :: rest) (fun E sd => w { E with nx := fun sd' => u E sd' } sd) where
  ps := PSs.weak (pss_cons h.ps t.ps) fun D σ H ⟨c, sd, os, E, hk, r, er, q⟩ =>
    ⟨c, sd, os, { E with nx := fun sd' => u E sd' }, hk, r, ⟨fun sd os σ H r q => ⟨c, sd, os, E, hk, r, er, q⟩, er.bk, er.ct, er.rt⟩, q⟩
  mo := fun E E' sd h1 h2 h3 h4 q => h.mo { E with nx := fun sd' => u E sd' } { E' with nx := fun sd' => u E' sd' } sd (fun sd z => t.mo E E' sd h1 h2 h3 h4 z) h2 h3 h4 q
theorem evb_one (h : EvS X st w) : EvB X [st] w := ⟨pss_one h.ps, h.mo⟩
/-- return e -/
theorem rv_ret {c : Cd} {sd : SD} {os : List (Option Addr)} {σ : L2.St} {H H' : Hp} {v : V} {z : RV} (r : R c sd os σ H) (x : Ext c.S H H') (h : RvR c.K (OO c os) H H' v z) : RvR c.K c.Oc c.H0 H' v z := by
  have hs : ∀ a ∈ c.Oc, a ∈ OO c os := fun a m => mem_OO.mpr (.inl m)
  cases z with
  | va d => exact Dx.same (hid_le hs) d v h
  | fr ds =>
    obtain ⟨p, xs, e1, e2, e3, e4⟩ := h
    refine ⟨p, xs, e1, ?_, e3, DxAll.same (hid_same (fun _ _ _ h => h) fun a m => .inl ?_) _ _ e4⟩
    · cases q : c.H0 p with
      | none => rfl
      | some o =>
        by_cases z : p ∈ c.S
        · exact absurd e2 (r.srcNow.there p z)
        · rw [r.ext.st p o z q] at e2; cases e2
    · rcases List.mem_cons.mp m with rfl | m
      · exact List.mem_cons_self
      · exact List.mem_cons_of_mem _ (hs a m)
  | fd es =>
    obtain ⟨p, xs, e1, e2, e3, e4⟩ := h
    refine ⟨p, xs, e1, ?_, e3, DE.same (hid_same (fun _ _ _ h => h) fun a m => .inl ?_) e4⟩
    · cases q : c.H0 p with
      | none => rfl
      | some o =>
        by_cases z : p ∈ c.S
        · exact absurd e2 (r.srcNow.there p z)
        · rw [r.ext.st p o z q] at e2; cases e2
    · rcases List.mem_cons.mp m with rfl | m
      · exact List.mem_cons_self
      · exact List.mem_cons_of_mem _ (hs a m)
theorem evs_ret {we : WR} (h : EvR X e we) : EvS X (.Return (some e) pos) (fun E sd => we sd E.rt) where
  ps := PS.weak (ps_ret h.pe) fun D σ H ⟨c, sd, os, E, hk, r, er, q⟩ => ⟨c, sd, os, hk, r, h.mo _ _ _ (fun z kz v H' x rv =>
    er.rt z v H' (r.ext.trans x) (rv_ret r x (by rw [hk]; exact rv)) kz) q⟩
  mo := fun E E' sd _ h2 _ _ q => h.mo _ _ _ h2 q
def wRetO (i : Nat) : WS := fun E sd => match getS sd i with
  | .ow ds => E.rt (.fr ds)
  | .od es => E.rt (.fd es)
  | .va d => E.rt (.va d)
  | _ => False
/-- return xs, xs a list of one's own: it is the caller's from now on -/
theorem evs_retO {x : Str} (i : Nat) (hN : X.N[i]? = some x := by rfl)
    (hv : Vis X.env.scope x := by first | exact Or.inl rfl | exact Or.inr (Or.inl rfl) | exact Or.inr (Or.inr rfl))
    (hd : (x == ("__debug__" : Str)) = false := by decide) (hcd : (x == ("__classdict__" : Str)) = false := by decide) :
    EvS X (.Return (some (.Name x p)) pos) (wRetO i) where
  ps := PS.weak (ps_ret (pe_var hN hv hd hcd)) fun D σ H ⟨c, sd, os, E, hk, r, er, q⟩ => by
    unfold wRetO at q
    cases e : getS sd i with
    | so => rw [e] at q; exact q.elim
    | fn _ => rw [e] at q; exact q.elim
    | un => rw [e] at q; exact q.elim
    | va d =>
      rw [e] at q
      obtain ⟨v, oa, h1, h2, h3, y, rfl, h4⟩ := r.at_ e (by intro z; cases z)
      exact ⟨y, h1, er.rt (.va d) y H r.ext (rv_ret r Ext.refl (z := .va d) h4) q⟩
    | ow ds =>
      rw [e] at q
      obtain ⟨v, oa, h1, h2, a, xs, rfl, rfl, h3, h4, h5⟩ := r.at_ e (by intro z; cases z)
      refine ⟨_, h1, er.rt (.fr ds) _ H r.ext ⟨a, xs, rfl, h5, h3, DxAll.same (hid_same (fun _ _ _ h => h) fun b m => .inl ?_) _ _ h4⟩ q⟩
      rcases List.mem_cons.mp m with rfl | m
      · exact mem_OO.mpr (.inr (List.mem_of_getElem? h2))
      · exact mem_OO.mpr (.inl m)
    | od es =>
      rw [e] at q
      obtain ⟨v, oa, h1, h2, a, xs, rfl, rfl, h3, h4, h5⟩ := r.at_ e (by intro z; cases z)
      refine ⟨_, h1, er.rt (.fd es) _ H r.ext ⟨a, xs, rfl, h5, h3, DE.same (hid_same (fun _ _ _ h => h) fun b m => .inl ?_) h4⟩ q⟩
      rcases List.mem_cons.mp m with rfl | m
      · exact mem_OO.mpr (.inr (List.mem_of_getElem? h2))
      · exact mem_OO.mpr (.inl m)
  mo := fun E E' sd _ h2 _ _ q => by
    unfold wRetO at q ⊢
    cases e : getS sd i with
    | so => rw [e] at q; exact q.elim
    | fn _ => rw [e] at q; exact q.elim
    | un => rw [e] at q; exact q.elim
    | va d => first | exact h2 _ q | (rw [e] at q; exact h2 _ q)
    | ow d => first | exact h2 _ q | (rw [e] at q; exact h2 _ q)
    | od d => first | exact h2 _ q | (rw [e] at q; exact h2 _ q)
/-- if -/
theorem evs_if {c : Expr} {x y : List Stmt} {t : WB} (hc : EvT X c t) (ha : EvB X x w) (hb : EvB X y u) : EvS X (.If c x y pos) (fun E sd => t sd fun b => if b = true then w E sd else u E sd) where
  ps := PS.weak (ps_if hc.pt ha.ps hb.ps) fun D σ H ⟨c, sd, os, E, hk, r, er, q⟩ => ⟨c, sd, os, hk, r, hc.mo _ _ _ (fun d k H1 x1 => by
    cases d with
    | true => exact ⟨c, sd, os, E, hk, r.grow x1, er, k⟩
    | false => exact ⟨c, sd, os, E, hk, r.grow x1, er, k⟩) q⟩
  mo := fun E E' sd h1 h2 h3 h4 q => hc.mo _ _ _ (fun d z => by
    cases d with
    | true => exact ha.mo _ _ _ h1 h2 h3 h4 z
    | false => exact hb.mo _ _ _ h1 h2 h3 h4 z) q
theorem set_get {α : Type} {l : List α} {i j : Nat} {x y : α} (h : (l.set i x)[j]? = some y) : (j = i ∧ y = x) ∨ (j ≠ i ∧ l[j]? = some y) := by
  by_cases e : i = j
  · subst e
    left
    have l1 : i < (l.set i x).length := (List.getElem?_eq_some_iff.mp h).1
    rw [List.length_set] at l1
    rw [List.getElem?_set_self l1] at h
    cases h
    exact ⟨rfl, rfl⟩
  · rw [List.getElem?_set_ne e] at h
    exact .inr ⟨fun z => e z.symm, h⟩
theorem R.set {c : Cd} {sd : SD} {os : List (Option Addr)} {σ : L2.St} {H H' : Hp} {i : Nat} {v : V} {z : RV} (r : R c sd os σ H) (x : Ext c.S H H') (h : RvR c.K (OO c os) H H' v z) :
    ∃ oa, R c (sd.set i z.sv) (os.set i oa) (σ.set i (some v)) H' := by
  have rr := r.grow x
  cases z with
  | va d =>
    refine ⟨none, rr.ext, rr.src, rr.sin, rr.ocl, by simp [rr.lend], by simp [rr.leno], fun j s w oa h1 h2 h3 => ?_, fun j k a h1 h2 => ?_, fun p m => ?_, fun a m => ?_⟩
    · have sub : Same (hid (OO c os) H') (hid (OO c (os.set i none)) H') := hid_same (fun _ _ _ h => h) fun a m => by
        rcases mem_OO.mp m with q | q
        · exact .inl (mem_OO.mpr (.inl q))
        · obtain ⟨j, hj, e⟩ := List.getElem_of_mem q
          rcases set_get (show (os.set i none)[j]? = some (some a) by rw [List.getElem?_eq_getElem hj, e]) with ⟨_, z⟩ | ⟨_, z⟩
          · cases z
          · exact .inl (mem_OO.mpr (.inr (List.mem_of_getElem? z)))
      rcases set_get h1 with ⟨ej, e1⟩ | ⟨nj, e1⟩
      · subst ej e1
        rcases set_get h2 with ⟨_, e2⟩ | ⟨n, _⟩
        · rcases set_get h3 with ⟨_, e3⟩ | ⟨n, _⟩
          · subst e2 e3
            exact ⟨rfl, v, rfl, Dx.same sub _ _ h⟩
          · exact absurd rfl n
        · exact absurd rfl n
      · rcases set_get h2 with ⟨n, _⟩ | ⟨_, e2⟩
        · exact absurd n nj
        · rcases set_get h3 with ⟨n, _⟩ | ⟨_, e3⟩
          · exact absurd n nj
          · have q := rr.slot j s w oa e1 e2 e3
            cases s with
            | un => exact q
            | so => exact q
            | fn _ => exact q
            | va d => obtain ⟨q1, y, q2, q3⟩ := q; exact ⟨q1, y, q2, Dx.same sub _ _ q3⟩
            | ow ds => obtain ⟨a, xs, q1, q2, q3, q4, q5⟩ := q; exact ⟨a, xs, q1, q2, q3, DxAll.same sub _ _ q4, q5⟩
            | od ds => obtain ⟨a, xs, q1, q2, q3, q4, q5⟩ := q; exact ⟨a, xs, q1, q2, q3, DE.same sub q4, q5⟩
    · rcases set_get h1 with ⟨_, e⟩ | ⟨n1, e1⟩
      · cases e
      · rcases set_get h2 with ⟨_, e⟩ | ⟨n2, e2⟩
        · cases e
        · exact rr.uniq j k a e1 e2
    · exact Dx.same (hid_same (fun _ _ _ h => h) fun a m => by
        rcases mem_OO.mp m with q | q
        · exact .inl (mem_OO.mpr (.inl q))
        · obtain ⟨j, hj, e⟩ := List.getElem_of_mem q
          rcases set_get (show (os.set i none)[j]? = some (some a) by rw [List.getElem?_eq_getElem hj, e]) with ⟨_, z⟩ | ⟨_, z⟩
          · cases z
          · exact .inl (mem_OO.mpr (.inr (List.mem_of_getElem? z)))) _ _ (rr.tmp p m)
    · obtain ⟨j, hj, e⟩ := List.getElem_of_mem m
      rcases set_get (show (os.set i none)[j]? = some (some a) by rw [List.getElem?_eq_getElem hj, e]) with ⟨_, z⟩ | ⟨_, z⟩
      · cases z
      · exact rr.dis a (List.mem_of_getElem? z)
  | fr ds =>
    obtain ⟨p, ys, rfl, hp, hp', hd⟩ := h
    have np : some p ∉ os := fun m => r.there (mem_OO.mpr (.inr m)) hp
    have sub0 : Same (hid (OO c os) H) (hid (OO c (os.set i (some p))) H') := hid_same (fun a o n e => x.st a o (fun z => n (r.sO a z)) e) fun a m => by
      rcases mem_OO.mp m with q | q
      · exact .inl (mem_OO.mpr (.inl q))
      · obtain ⟨j, hj, e⟩ := List.getElem_of_mem q
        rcases set_get (show (os.set i (some p))[j]? = some (some a) by rw [List.getElem?_eq_getElem hj, e]) with ⟨_, z⟩ | ⟨_, z⟩
        · cases z; exact .inr hp
        · exact .inl (mem_OO.mpr (.inr (List.mem_of_getElem? z)))
    have sub1 : Same (hid (p :: OO c os) H') (hid (OO c (os.set i (some p))) H') := hid_same (fun _ _ _ h => h) fun a m => by
      rcases mem_OO.mp m with q | q
      · exact .inl (List.mem_cons_of_mem _ (mem_OO.mpr (.inl q)))
      · obtain ⟨j, hj, e⟩ := List.getElem_of_mem q
        rcases set_get (show (os.set i (some p))[j]? = some (some a) by rw [List.getElem?_eq_getElem hj, e]) with ⟨_, z⟩ | ⟨_, z⟩
        · cases z; exact .inl List.mem_cons_self
        · exact .inl (List.mem_cons_of_mem _ (mem_OO.mpr (.inr (List.mem_of_getElem? z))))
    have h0 : c.H0 p = none := by
      cases q : c.H0 p with
      | none => rfl
      | some o =>
        by_cases z : p ∈ c.S
        · exact absurd hp (r.srcNow.there p z)
        · rw [r.ext.st p o z q] at hp; cases hp
    refine ⟨some p, rr.ext, rr.src, rr.sin, rr.ocl, by simp [rr.lend], by simp [rr.leno], fun j s w oa h1 h2 h3 => ?_, fun j k a h1 h2 => ?_, fun q m => Dx.same sub0 _ _ (r.tmp q m), fun a m => ?_⟩
    · rcases set_get h1 with ⟨ej, e1⟩ | ⟨nj, e1⟩
      · subst ej e1
        rcases set_get h2 with ⟨_, e2⟩ | ⟨n, _⟩
        · rcases set_get h3 with ⟨_, e3⟩ | ⟨n, _⟩
          · subst e2 e3
            exact ⟨p, ys, rfl, rfl, hp', DxAll.same sub1 _ _ hd, h0⟩
          · exact absurd rfl n
        · exact absurd rfl n
      · rcases set_get h2 with ⟨n, _⟩ | ⟨_, e2⟩
        · exact absurd n nj
        · rcases set_get h3 with ⟨n, _⟩ | ⟨_, e3⟩
          · exact absurd n nj
          · have q := r.slot j s w oa e1 e2 e3
            cases s with
            | un => exact q
            | so => exact q
            | fn _ => exact q
            | va d => obtain ⟨q1, y, q2, q3⟩ := q; exact ⟨q1, y, q2, Dx.same sub0 _ _ q3⟩
            | ow ds =>
              obtain ⟨a, xs, q1, q2, q3, q4, q5⟩ := q
              subst q1
              exact ⟨a, xs, rfl, q2, x.st a _ (own_notS r (List.mem_of_getElem? e3)) q3, DxAll.same sub0 _ _ q4, q5⟩
            | od ds =>
              obtain ⟨a, xs, q1, q2, q3, q4, q5⟩ := q
              subst q1
              exact ⟨a, xs, rfl, q2, x.st a _ (own_notS r (List.mem_of_getElem? e3)) q3, DE.same sub0 q4, q5⟩
    · rcases set_get h1 with ⟨ej, e1⟩ | ⟨n1, e1⟩
      · cases e1
        rcases set_get h2 with ⟨ek, e2⟩ | ⟨n2, e2⟩
        · rw [ej, ek]
        · exact absurd (List.mem_of_getElem? e2) np
      · rcases set_get h2 with ⟨ek, e2⟩ | ⟨n2, e2⟩
        · cases e2
          exact absurd (List.mem_of_getElem? e1) np
        · exact rr.uniq j k a e1 e2
    · obtain ⟨j, hj, e⟩ := List.getElem_of_mem m
      rcases set_get (show (os.set i (some p))[j]? = some (some a) by rw [List.getElem?_eq_getElem hj, e]) with ⟨_, z⟩ | ⟨_, z⟩
      · cases z
        exact fun z => r.there (mem_OO.mpr (.inl z)) hp
      · exact rr.dis a (List.mem_of_getElem? z)
  | fd es =>
    obtain ⟨p, ys, rfl, hp, hp', hd⟩ := h
    have np : some p ∉ os := fun m => r.there (mem_OO.mpr (.inr m)) hp
    have sub0 : Same (hid (OO c os) H) (hid (OO c (os.set i (some p))) H') := hid_same (fun a o n e => x.st a o (fun z => n (r.sO a z)) e) fun a m => by
      rcases mem_OO.mp m with q | q
      · exact .inl (mem_OO.mpr (.inl q))
      · obtain ⟨j, hj, e⟩ := List.getElem_of_mem q
        rcases set_get (show (os.set i (some p))[j]? = some (some a) by rw [List.getElem?_eq_getElem hj, e]) with ⟨_, z⟩ | ⟨_, z⟩
        · cases z; exact .inr hp
        · exact .inl (mem_OO.mpr (.inr (List.mem_of_getElem? z)))
    have sub1 : Same (hid (p :: OO c os) H') (hid (OO c (os.set i (some p))) H') := hid_same (fun _ _ _ h => h) fun a m => by
      rcases mem_OO.mp m with q | q
      · exact .inl (List.mem_cons_of_mem _ (mem_OO.mpr (.inl q)))
      · obtain ⟨j, hj, e⟩ := List.getElem_of_mem q
        rcases set_get (show (os.set i (some p))[j]? = some (some a) by rw [List.getElem?_eq_getElem hj, e]) with ⟨_, z⟩ | ⟨_, z⟩
        · cases z; exact .inl List.mem_cons_self
        · exact .inl (List.mem_cons_of_mem _ (mem_OO.mpr (.inr (List.mem_of_getElem? z))))
    have h0 : c.H0 p = none := by
      cases q : c.H0 p with
      | none => rfl
      | some o =>
        by_cases z : p ∈ c.S
        · exact absurd hp (r.srcNow.there p z)
        · rw [r.ext.st p o z q] at hp; cases hp
    refine ⟨some p, rr.ext, rr.src, rr.sin, rr.ocl, by simp [rr.lend], by simp [rr.leno], fun j s w oa h1 h2 h3 => ?_, fun j k a h1 h2 => ?_, fun q m => Dx.same sub0 _ _ (r.tmp q m), fun a m => ?_⟩
    · rcases set_get h1 with ⟨ej, e1⟩ | ⟨nj, e1⟩
      · subst ej e1
        rcases set_get h2 with ⟨_, e2⟩ | ⟨n, _⟩
        · rcases set_get h3 with ⟨_, e3⟩ | ⟨n, _⟩
          · subst e2 e3
            exact ⟨p, ys, rfl, rfl, hp', DE.same sub1 hd, h0⟩
          · exact absurd rfl n
        · exact absurd rfl n
      · rcases set_get h2 with ⟨n, _⟩ | ⟨_, e2⟩
        · exact absurd n nj
        · rcases set_get h3 with ⟨n, _⟩ | ⟨_, e3⟩
          · exact absurd n nj
          · have q := r.slot j s w oa e1 e2 e3
            cases s with
            | un => exact q
            | so => exact q
            | fn _ => exact q
            | va d => obtain ⟨q1, y, q2, q3⟩ := q; exact ⟨q1, y, q2, Dx.same sub0 _ _ q3⟩
            | ow ds =>
              obtain ⟨a, xs, q1, q2, q3, q4, q5⟩ := q
              subst q1
              exact ⟨a, xs, rfl, q2, x.st a _ (own_notS r (List.mem_of_getElem? e3)) q3, DxAll.same sub0 _ _ q4, q5⟩
            | od ds =>
              obtain ⟨a, xs, q1, q2, q3, q4, q5⟩ := q
              subst q1
              exact ⟨a, xs, rfl, q2, x.st a _ (own_notS r (List.mem_of_getElem? e3)) q3, DE.same sub0 q4, q5⟩
    · rcases set_get h1 with ⟨ej, e1⟩ | ⟨n1, e1⟩
      · cases e1
        rcases set_get h2 with ⟨ek, e2⟩ | ⟨n2, e2⟩
        · rw [ej, ek]
        · exact absurd (List.mem_of_getElem? e2) np
      · rcases set_get h2 with ⟨ek, e2⟩ | ⟨n2, e2⟩
        · cases e2
          exact absurd (List.mem_of_getElem? e1) np
        · exact rr.uniq j k a e1 e2
    · obtain ⟨j, hj, e⟩ := List.getElem_of_mem m
      rcases set_get (show (os.set i (some p))[j]? = some (some a) by rw [List.getElem?_eq_getElem hj, e]) with ⟨_, z⟩ | ⟨_, z⟩
      · cases z
        exact fun z => r.there (mem_OO.mpr (.inl z)) hp
      · exact rr.dis a (List.mem_of_getElem? z)
/-- name = e -/
theorem evs_set {we : WR} {x : Str} {pos' : Pos} (i : Nat) (h : EvR X e we) (hN : X.N.Nodup) (hi : X.N[i]? = some x := by rfl) (hx : Loc X.env.scope x := by first | exact Or.inl rfl | exact Or.inr rfl)
    (hs : swapsWith e (some (.Name x pos')) pos.line X.env = pure false := by rfl) (hf : X.fn x = true ∨ X.env.scope.names.lookup x = some .local := by first | exact .inl rfl | exact .inr rfl) :
    EvS X (.Assign [.Name x pos'] e pos) (fun E sd => we sd fun z => E.nx (sd.set i z.sv)) where
  ps := PS.weak (ps_set hN hi hx h.pe hs hf) fun D σ H ⟨c, sd, os, E, hk, r, er, q⟩ => ⟨c, sd, os, hk, r, h.mo _ _ _ (fun z kz v H' x rv => by
    obtain ⟨os', r'⟩ := R.set (i := i) r x (by rw [hk]; exact rv)
    exact er.nx _ _ _ _ r' kz) q⟩
  mo := fun E E' sd h1 _ _ _ q => h.mo _ _ _ (fun z y => h1 _ y) q
end
end DL
set_option Elab.async false
set_option linter.all false
set_option maxRecDepth 100000
set_option maxHeartbeats 4000000
namespace DL
open PySem PySem.Spec PyProof.Rows L2
variable [Tb]
section
variable {prog : Program} {w : World} {A : Around} {E : Value → Shared → Prop} {s : Shared}
theorem adj_back (n : Nat) : Builtin.Slice.sliceAdjust none none (-1) (n : Int) = ((n : Int) - 1, -1) := by
  unfold Builtin.Slice.sliceAdjust
  first
    | rfl
    | simp
theorem plc_back (n : Nat) : Builtin.Slice.slicePlaces ((n : Int) - 1) (-1) (-1) = n := by
  unfold Builtin.Slice.slicePlaces
  have h1 : ¬ ((-1 : Int) > 0) := by decide
  simp only [h1, if_false]
  first
    | omega
    | (split <;> omega)
    | (simp; omega)
theorem applied_back {sl : Addr} {u : Tok} {n : Nat} {Q : Int × Int × Nat → Shared → Prop} (hs : s.heap.IsSliceOf sl .none .none (.int (-1) u)) (h : Q ((n : Int) - 1, -1, n) s) :
    wpAny (model prog w) A (Builtin.Slice.sliceApplied (.ref sl) (pure (n : Int))) Q E s := by
  obtain ⟨os, hos, hcs, hds⟩ := id hs
  unfold Builtin.Slice.sliceApplied Builtin.Slice.sliceFields
  refine wpAny_bind (wpAny_bind (wpAny_field hos hds (x := .none) rfl (wpAny_bind (wpAny_field hos hds (x := .none) rfl
    (wpAny_bind (wpAny_field hos hds (x := .int (-1) u) rfl (wpAny_pure ?_)))))))
  refine wpAny_bind (slicePart_int ?_)
  show wpAny _ _ (if ((-1 : Int) == 0) = true then _ else _) _ _ s
  rw [if_neg (by decide)]
  refine wpAny_bind (slicePart_none (wpAny_bind (slicePart_none (wpAny_bind (wpAny_pure ?_)))))
  show wpAny _ _ (match Builtin.Slice.sliceAdjust none none (-1) (n : Int) with
    | (lo, hi) => pure (lo, (-1 : Int), Builtin.Slice.slicePlaces lo hi (-1))) _ _ s
  rw [adj_back n]
  show wpAny _ _ (pure (((n : Int) - 1), (-1 : Int), Builtin.Slice.slicePlaces ((n : Int) - 1) (-1) (-1))) _ _ s
  rw [plc_back]
  exact wpAny_pure h
theorem pick_back (xs : Array Value) : ((List.range xs.size).filterMap fun (m : Nat) => xs[(((xs.size : Int) - 1) + (m : Int) * (-1)).toNat]?).toArray = xs.toList.reverse.toArray := by
  have e1 : (List.range xs.size).filterMap (fun (m : Nat) => xs[(((xs.size : Int) - 1) + (m : Int) * (-1)).toNat]?) = ((List.range xs.size).map (fun m => xs.size - 1 - m)).filterMap (xs[·]?) := by
    rw [List.filterMap_map]
    congr 1
    funext m
    show xs[(((xs.size : Int) - 1) + (m : Int) * (-1)).toNat]? = xs[xs.size - 1 - m]?
    congr 1
    omega
  rw [e1, PySem.W.krv_range, List.filterMap_reverse, PySem.W.krv_all]
theorem tup_back {t sl : Addr} {items : Array Value} {u : Tok} {Q : Value → Shared → Prop} (ht : IsTup s.heap t items) (hs : s.heap.IsSliceOf sl .none .none (.int (-1) u))
    (h : Q (.ref s.heap.objs.size) { s with heap := s.heap.push { cls := .type "tuple", data := .seq items.toList.reverse.toArray } })
    (hsz : items.size ≤ sizeLine) : wpAny (model prog w) A (getItem (.ref t) (.ref sl)) Q E s := by
  have hok : sizeOk (.seq items.toList.reverse.toArray) := by
    show items.toList.reverse.toArray.size ≤ sizeLine
    rw [List.size_toArray, List.length_reverse, Array.length_toList]
    exact hsz
  obtain ⟨os, hos, hcs, hds⟩ := id hs
  have hTs : s.TypeIs (.ref sl) "slice" := ⟨os, hos, hcs⟩
  unfold getItem
  try with_reducible refine wpAny_holding ?_
  first
    | refine wpAny_bind (wpAny_pure ?_)
    | skip
  refine wpAny_bind (wpAny_sequenceKey ht.typeIs (by decide) ?_)
  refine wpAny_bind (wpAny_callSpecial?_slot (name := Str.ofString "__getitem__") ht.typeIs slot_tuple_getitem
    (wpAny_call_entry slot_tuple_getitem ht.typeIs entry_tuple_getitem ?_
      (args_tuple_getitem _ _)))
  show wpAny _ _ (Builtin.Tuple.tupleItemsOf (.ref t) >>= _) _ _ s
  refine wpAny_bind (tupleItemsOf_ ht ?_)
  refine wpAny_bind (wpAny_typeOf hTs ?_)
  rw [if_pos (by decide)]
  refine wpAny_bind (applied_back hs ?_)
  have hno : ¬ ((((items.size : Int) - 1) == 0 && (-1 : Int) == 1 && items.size == items.size) = true) := by
    rw [show ((-1 : Int) == 1) = false from rfl, Bool.and_false, Bool.false_and]
    exact Bool.false_ne_true
  show wpAny _ _ (if (((items.size : Int) - 1) == 0 && (-1 : Int) == 1 && items.size == items.size) = true then _ else _) _ _ s
  rw [if_neg hno, pick_back]
  first
    | exact wpAny_bind (m := Builtin.Tuple.tupleExact _) (wpAny_newObj_type (wpAny_pure ⟨_, rfl, wpAny_pure h⟩) hok)
    | exact wpAny_bind (m := Builtin.Tuple.tupleExact _) (wpAny_newObj_type (wpAny_bind (wpAny_pure (wpAny_pure
        ⟨_, rfl, wpAny_pure h⟩))) hok)
    | exact wpAny_bind (wpAny_bind (m := Builtin.Tuple.tupleExact _) (wpAny_newObj_type (wpAny_pure
        (wpAny_pure ⟨_, rfl, wpAny_pure h⟩)) hok))
    | exact wpAny_bind (wpAny_bind (m := Builtin.Tuple.tupleExact _) (wpAny_newObj_type (wpAny_pure
        ⟨_, rfl, wpAny_pure h⟩) hok))
theorem ext_tup (l : Addr) (items : Array Value) (n : Nat) (b : Addr) (items2 : Array Value) (n2 : Nat) (dd : Option Addr) (sl : Array (Option Value))
    (hs0 : ¬ (!items.isEmpty && Builtin.List.listTooLong (items.size + items2.size)) = true) (hs1 : items.size ≤ sizeLine) (hs2 : items.size + items2.size ≤ sizeLine + 1) :
    Meets (Builtin.«list.extend» ⟨[.ref l, .ref b], []⟩) (fun _ R s =>
      s.heap.get? l = some { cls := .type "list", data := .seq items n } ∧ s.heap.get? b = some { cls := .type "tuple", dict := dd, data := .seq items2 n2, slots := sl } ∧
      R (.ok (.ret Value.none)) { s with heap := s.heap.update l (Obj.mapSeq fun x => x ++ items2), toks := s.toks }) :=
  .of_wp fun prog w A R s h => by
    obtain ⟨hp, g, d, tk, os⟩ := s
    obtain ⟨hl, hb, h⟩ := h
    have f1 := PySem.AutoSeq1.idx_int
    have f2 := PySem.AutoSeq1.sub_tuple_tuple
    have f3 := PySem.AutoSeq1.sub_list_list
    have f4 := PySem.AutoSeq1.sub_tuple_list
    have f5 := PySem.AutoSeq1.sub_list_tuple
    have hz' : (items ++ items2).size ≤ sizeLine + 1 := by
      rw [Array.size_append]
      exact hs2
    wp_walk using (wpAny_updateSeq hl rfl (hz := hs1)
      (_hz' := hz')), PySem.AutoSeq1.wpAny_loadPart' hl, PySem.AutoSeq1.wpAny_loadPart' hb
    exact ⟨_, rfl, h⟩
end
section
variable {X : Cx} {e : Expr} {te : TE} {k : Nat} {p1 p2 p3 pos : Pos}
/-- e[::-1] of a tuple or a list -/
def tBack (K : PySem.W.Frag) (te : TE) : TE := fun σ H Q => te σ H fun x H1 => (∃ a xs, x = .ref a ∧ SqT K H1 a xs ∧ NewT H1 Q xs.reverse) ∨
  ∃ a xs, x = .ref a ∧ SqL K H1 a xs ∧ ∀ p, H1 p = none → Q (.ref p) (upd H1 p (.lst xs.reverse))
theorem pe_back (he : PE X e te) : PE X (.Subscript e (.Slice none none (some (.UnaryOp .USub (.Constant (.int 1) k p1) p2)) p3) pos) (tBack X.K te) := by
  constructor
  intro pins s σ H Q I h
  apply Subscript_
  apply thn (he.run pins s σ H _ I h)
  rintro v s1 ⟨x, H1, I1, r1, q1⟩
  have hst : PO X (some (.UnaryOp .USub (.Constant (.int 1) k p1) p2)) (tPart (tUn (rU fun i => .int (-i)) (tC (.int 1)))) := po_some (pe_un un_neg pe_int)
  apply wpAny_Slice
  apply thn (po_none.run pins s1 σ H1 (fun o H2 => o = none ∧ H2 = H1) I1 ⟨rfl, rfl⟩)
  rintro vl s2 ⟨l, H2, I2, pl, el, e2⟩
  subst el e2
  apply thn (po_none.run pins s2 σ H2 (fun o H3 => o = none ∧ H3 = H2) I2 ⟨rfl, rfl⟩)
  rintro vu s3 ⟨u, H3, I3, pu, eu, e3⟩
  subst eu e3
  apply thn (hst.run pins s3 σ H3 (fun o H4 => o = some (-1) ∧ H4 = H3) I3 ⟨1, rfl, -1, rfl, rfl, rfl⟩)
  rintro vs s4 ⟨o, H4, I4, ps, eo, e4⟩
  subst eo e4
  have I5 : Inv X pins σ H4 { s4 with heap := s4.heap.push { cls := .type "slice", data := .fields #[vl, vu, vs] } } :=
    I4.kept (t' := s4.toks) fun b ob q => Heap.get?_push_of_some _ q
  rcases q1 with ⟨a, xs, rfl, hx, q⟩ | ⟨a, xs, rfl, hx, q⟩
  · cases r1
    cases pl
    cases pu
    cases ps
    obtain ⟨its, r, ht, hz⟩ := I5.tuple hx
    have hlen := r.length
    refine tail_any (value := e) (ops := [.ref a, .ref s4.heap.objs.size]) ht.typeIs slot_tuple_getitem.lookup ?_ (by with_unfolding_all rfl)
    refine tup_back ht (Heap.IsSliceOf.new _ _ _ _) ?_ (by rw [List.size_toArray]; omega)
    exact newT (k := s4.toks) I5 r.reverse (by rw [List.length_reverse]; exact hz) q
  · cases r1
    obtain ⟨its, r, ht, hz⟩ := I5.list hx
    have hlen := r.length
    refine tail_any (value := e) (ops := [.ref a, .ref s4.heap.objs.size]) ht.isList.typeIs (PySem.slot_list_getitem.lookup) ?_ (by with_unfolding_all rfl)
    refine wpAny_getItem_list_slice ht.isList (Heap.IsSliceOf.new _ vl vu vs) pl pu ps (by decide) ?_ (by rw [List.size_toArray]; omega)
    rw [PySem.W.krv_pick]
    refine ⟨.ref _, _, I5.laid (t' := s4.toks) (o := .lst xs.reverse) (fun b ob q => Heap.get?_push_of_some _ q) (Nat.le_refl _) ?_, rfl, q _ (I5.hok.fresh (Nat.le_refl _))⟩
    exact ⟨by rw [List.length_reverse]; exact hz, _, 0, r.reverse, Heap.get?_push_size _ rfl⟩
def rExtT (K : PySem.W.Frag) : V → List V → Hp → VK → Prop := fun x vs H Q => ∃ l b xs zs, x = .ref l ∧ vs = [.ref b] ∧ H l = some (.lst xs) ∧ SqT K H b zs ∧ xs.length + zs.length ≤ sizeLine ∧ Q .non (upd H l (.lst (xs ++ zs)))
theorem mt_extT : MtM X "list.extend" (rExtT X.K) := by
  intro pins s σ H x vs v us Q I rx rv h
  obtain ⟨l, b, xs, zs, rfl, rfl, hH, hB, hz, q⟩ := h
  cases rx
  obtain ⟨u, rfl, ru⟩ := rv.one
  cases ru
  obtain ⟨z, its, n, r, hl, e⟩ := I.lstM hH
  obtain ⟨its2, r2, ⟨⟨cls2, dd2, data2, sl2⟩, ho2, hc2, n2, hd2⟩, hz2⟩ := I.tuple hB
  simp only at hc2 hd2
  subst hc2 hd2
  have hl2 := r2.length
  have hsz : its.toArray.size + its2.toArray.size ≤ sizeLine := by rw [List.size_toArray, List.size_toArray]; omega
  refine call_meets F.slot_list_extend ⟨_, e, rfl⟩ F.entry_list_extend (F.args_list_extend_2 _ _)
    (ext_tup l its.toArray n b its2.toArray n2 dd2 sl2 ?_ (by rw [List.size_toArray]; omega) (by omega)) ⟨e, ho2, ?_⟩
  · rw [notLongL hsz, Bool.and_false]
    exact Bool.false_ne_true
  · refine ⟨.non, _, I.lset (its' := its ++ its2) hH e (by simp) (r.append r2) ?_, rfl, q⟩
    rw [List.length_append]
    omega
end
end DL
set_option Elab.async false
set_option linter.all false
set_option maxRecDepth 100000
set_option maxHeartbeats 4000000
namespace DL
open PySem PySem.Spec PyProof.Rows L2
variable [Tb]
section
variable {c : Cd} {sd : SD} {os : List (Option Addr)} {σ : L2.St} {H H' : Hp}
theorem hid_upd {O : List Addr} {a : Addr} {o : HO} (h : a ∈ O) : hid O (upd H a o) = hid O H := by
  funext b
  by_cases m : b ∈ O
  · rw [hid_in m, hid_in m]
  · rw [hid_out m, hid_out m, upd_ne (fun e => m (by rw [e]; exact h))]
theorem ext_upd {S : List Addr} {H0 : Hp} {a : Addr} {o : HO} (x : Ext S H0 H) (hn : H0 a = none) (hs : a ∉ S) : Ext S H0 (upd H a o) := by
  refine ⟨fun b u n e => ?_, fun k => ?_⟩
  · rw [upd_ne (ne_of_none e hn)]; exact x.st b u n e
  · have ts : ∀ P ∈ (Tb.Ts : List Addr), P ∈ S := fun P m => by
      rcases (x.so k).1 with e | ⟨p, q, e, _⟩
      · rw [e]; exact m
      · rw [e]; exact List.mem_cons_of_mem _ (List.mem_cons_of_mem _ m)
    refine ⟨?_, fun P m => ?_⟩
    · rcases (x.so k).1 with e | ⟨p, q, e, cs, l, m, t, h1, h2, h3⟩
      · exact .inl e
      · refine .inr ⟨p, q, e, cs, l, m, t, ?_, ?_, h3⟩
        · rw [upd_ne (fun z => hs (by rw [e, ← z]; exact List.mem_cons_self))]; exact h1
        · rw [upd_ne (fun z => hs (by rw [e, ← z]; exact List.mem_cons_of_mem _ List.mem_cons_self))]; exact h2
    · obtain ⟨ps, e, r⟩ := (x.so k).2 P m
      exact ⟨ps, by rw [upd_ne (fun z => hs (by rw [← z]; exact ts P m))]; exact e, r⟩
/-- a hidden list changes -/
theorem R.updO (r : R c sd os σ H) {a : Addr} {o : HO} (ha : a ∈ c.Oc) (hs : a ∉ c.S) (h0 : c.H0 a = none) (ho : IsOwn o) : R c sd os σ (upd H a o) := by
  have hO : a ∈ OO c os := mem_OO.mpr (.inl ha)
  refine ⟨ext_upd r.ext h0 hs, r.src, r.sin, fun b m => ?_, r.lend, r.leno, fun i s v oa h1 h2 h3 => ?_, r.uniq, fun p m => by rw [hid_upd hO]; exact r.tmp p m, r.dis⟩
  · by_cases e : b = a
    · rw [e]; exact .inr ⟨_, upd_same, ho⟩
    · rw [upd_ne e]; exact r.ocl b m
  · have q := r.slot i s v oa h1 h2 h3
    cases s with
    | un => exact q
    | so => exact q
    | fn _ => exact q
    | va d => obtain ⟨q1, y, q2, q3⟩ := q; exact ⟨q1, y, q2, by rw [hid_upd hO]; exact q3⟩
    | ow ds =>
      obtain ⟨b, ys, q1, q2, q3, q4, q5⟩ := q
      subst q1
      by_cases e : b = a
      · -- the caller's lists are not one's own
        exact absurd (by rw [e]; exact ha) (r.dis b (List.mem_of_getElem? h3))
      · exact ⟨b, ys, rfl, q2, by rw [upd_ne e]; exact q3, by rw [hid_upd hO]; exact q4, q5⟩
    | od ds =>
      obtain ⟨b, ys, q1, q2, q3, q4, q5⟩ := q
      subst q1
      by_cases e : b = a
      · exact absurd (by rw [e]; exact ha) (r.dis b (List.mem_of_getElem? h3))
      · exact ⟨b, ys, rfl, q2, by rw [upd_ne e]; exact q3, by rw [hid_upd hO]; exact q4, q5⟩
/-- a list of one's own changes -/
theorem R.updG (r : R c sd os σ H) {i : Nat} {a : Addr} {o : HO} {z : SV} (hi : os[i]? = some (some a)) (ho : IsOwn o) (h : c.H0 a = none → SlotR c (OO c os) (upd H a o) z (some (.ref a)) (some a)) :
    R c (sd.set i z) os σ (upd H a o) := by
  have hm : some a ∈ os := List.mem_of_getElem? hi
  have hO : a ∈ OO c os := mem_OO.mpr (.inr hm)
  obtain ⟨i', s0, o0, g1, g1', g2, g3, g4, g5, g6⟩ := r.ownAt hm
  have ei : i' = i := r.uniq _ _ _ g3 hi
  subst ei
  have hs := own_notS r hm
  refine ⟨ext_upd r.ext g6 hs, r.src, r.sin, fun b m => ?_, by simp [r.lend], r.leno, fun j s v oa h1 h2 h3 => ?_, r.uniq, fun p m => by rw [hid_upd hO]; exact r.tmp p m, r.dis⟩
  · by_cases e : b = a
    · rw [e]; exact .inr ⟨_, upd_same, ho⟩
    · rw [upd_ne e]; exact r.ocl b m
  · rcases set_get h1 with ⟨ej, e1⟩ | ⟨nj, e1⟩
    · subst ej e1
      rw [g3] at h3; cases h3
      rw [g2] at h2; cases h2
      exact h g6
    · have q := r.slot j s v oa e1 h2 h3
      cases s with
      | un => exact q
      | so => exact q
      | fn _ => exact q
      | va d => obtain ⟨q1, y, q2, q3⟩ := q; exact ⟨q1, y, q2, by rw [hid_upd hO]; exact q3⟩
      | ow ds =>
        obtain ⟨b, ys, q1, q2, q3, q4, q5⟩ := q
        subst q1
        refine ⟨b, ys, rfl, q2, ?_, by rw [hid_upd hO]; exact q4, q5⟩
        rw [upd_ne (fun e => nj (r.uniq _ _ a (by rw [← e]; exact h3) g3))]
        exact q3
      | od ds =>
        obtain ⟨b, ys, q1, q2, q3, q4, q5⟩ := q
        subst q1
        refine ⟨b, ys, rfl, q2, ?_, by rw [hid_upd hO]; exact q4, q5⟩
        rw [upd_ne (fun e => nj (r.uniq _ _ a (by rw [← e]; exact h3) g3))]
        exact q3
theorem R.upd (r : R c sd os σ H) {i : Nat} {a : Addr} {xs : List V} {ds : List PyData} (hi : os[i]? = some (some a)) (h : DxAll c.K (hid (OO c os) H) xs ds) :
    R c (sd.set i (.ow ds)) os σ (upd H a (.lst xs)) :=
  r.updG hi own_lst fun g6 => ⟨a, xs, rfl, rfl, upd_same, by rw [hid_upd (mem_OO.mpr (.inr (List.mem_of_getElem? hi)))]; exact h, g6⟩
end
end DL
set_option Elab.async false
set_option linter.all false
set_option maxRecDepth 100000
set_option maxHeartbeats 4000000
namespace DL
open PySem PySem.Spec PyProof.Rows L2
variable [Tb]
section
variable {X : Cx} {e : Expr} {es : List Expr} {pos p apos cpos : Pos} {x : Str}
def onOw (i : Nat) (sd : SD) (k : List PyData → Prop) : Prop := match getS sd i with
  | .ow ds => k ds
  | _ => False
theorem onOw_get {i : Nat} {sd : SD} {k : List PyData → Prop} (q : onOw i sd k) : ∃ ds, getS sd i = .ow ds ∧ k ds := by
  unfold onOw at q
  cases es : getS sd i with
  | ow ds => rw [es] at q; exact ⟨ds, rfl, q⟩
  | un => rw [es] at q; exact q.elim
  | va d => rw [es] at q; exact q.elim
  | so => rw [es] at q; exact q.elim
  | fn _ => rw [es] at q; exact q.elim
  | od _ => rw [es] at q; exact q.elim
theorem onOw_put {i : Nat} {sd : SD} {k : List PyData → Prop} {ds : List PyData} (e : getS sd i = .ow ds) (q : k ds) : onOw i sd k := by
  unfold onOw
  rw [e]
  exact q
def wAppend (i : Nat) (we : WR) : WS := fun E sd => onOw i sd fun ds => we sd fun z => ds.length < sizeLine ∧ E.nx (sd.set i (.ow (ds ++ [z.dat])))
theorem evs_append {we : WR} (i : Nat) (h : EvR X e we) (hN : X.N[i]? = some x := by rfl)
    (hv : Vis X.env.scope x := by first | exact Or.inl rfl | exact Or.inr (Or.inl rfl) | exact Or.inr (Or.inr rfl))
    (hd : (x == ("__debug__" : Str)) = false := by decide) (hcd : (x == ("__classdict__" : Str)) = false := by decide)
    (hbase : attributeBase (.Name x p) "append" X.env (eval (.Name x p) X.env) = eval (.Name x p) X.env := by rfl)
    (hfew : ((backTo cpos (starEach [e] X.env)).all (fun x => !x.1) && (backToKw cpos (keywordEach [] X.env)).all (fun x => x.1.isSome)
      && decide ([e].length + ([] : List Keyword).length + (if ([] : List Keyword).isEmpty then 0 else 1) < 30)) = true := by rfl)
    (hline : (apos.endLine == cpos.line) = true := by rfl) (hs : starEach [e] X.env = (false, eval e X.env) :: starEach [] X.env := by rfl)
    (hplain : (backTo cpos (starEach [] X.env)).any (·.1) = false := by rfl) (hsw : swapsWith (.Call (.Attribute (.Name x p) "append" apos) [e] [] cpos) none pos.line X.env = pure false := by rfl) :
    EvS X (.Expr (.Call (.Attribute (.Name x p) "append" apos) [e] [] cpos) pos) (wAppend i we) where
  ps := PS.weak (ps_expr (pe_bm F.plainAttrs_list F.slot_list_append F.type_list_append mt_append (pe_var hN hv hd hcd) (pa_cons h.pe pa_nil hs) hbase hfew hline hs hplain) hsw)
    fun D σ H ⟨c, sd, os, E, hk, r, er, q⟩ => by
    obtain ⟨ds, es, q⟩ := onOw_get q
    obtain ⟨v, oa, h1, h2, a, xs, rfl, rfl, h3, h4, h5⟩ := r.at_ es (by intro z; cases z)
    have na := own_notS r (List.mem_of_getElem? h2)
    refine ⟨_, h1, .inl ⟨rfl, _, .inl (.inl h3)⟩, c, sd, os, hk, r, h.mo _ _ _ (fun z kz y H1 x1 rv => ?_) q⟩
    have g3 := x1.st a _ na h3
    have g4 := DxAll.grow r.sO x1 h4
    refine ⟨a, xs, y, rfl, rfl, g3, by rw [h4.len]; exact kz.1, ?_⟩
    refine er.nx _ _ _ _ (R.upd (r.grow x1) h2 (g4.app (.cons ?_ .nil))) kz.2
    rw [hk]
    exact RvR.cl rv fun b m => r.there m
  mo := fun E E' sd h1 _ _ _ q => by
    obtain ⟨ds, es, q⟩ := onOw_get q
    exact onOw_put es (h.mo _ _ _ (fun z y => ⟨y.1, h1 _ y.2⟩) q)
def dItems (d : PyData) (k : List PyData → Prop) : Prop := match d with
  | .list ds => k ds
  | .tuple ds => k ds
  | _ => False
theorem dItems_mo {d : PyData} {k k' : List PyData → Prop} (h : ∀ ds, k ds → k' ds) (q : dItems d k) : dItems d k' := by
  cases d with
  | list ds => exact h _ q
  | tuple ds => exact h _ q
  | _ => exact q.elim
def wExtend (i : Nat) (we : WD) : WS := fun E sd => onOw i sd fun ds => we sd fun d => dItems d fun zs => ds.length + zs.length ≤ sizeLine ∧ E.nx (sd.set i (.ow (ds ++ zs)))
theorem evs_extend {we : WD} (i : Nat) (h : Ev .sh X e we) (hN : X.N[i]? = some x := by rfl)
    (hv : Vis X.env.scope x := by first | exact Or.inl rfl | exact Or.inr (Or.inl rfl) | exact Or.inr (Or.inr rfl))
    (hd : (x == ("__debug__" : Str)) = false := by decide) (hcd : (x == ("__classdict__" : Str)) = false := by decide)
    (hbase : attributeBase (.Name x p) "extend" X.env (eval (.Name x p) X.env) = eval (.Name x p) X.env := by rfl)
    (hfew : ((backTo cpos (starEach [e] X.env)).all (fun x => !x.1) && (backToKw cpos (keywordEach [] X.env)).all (fun x => x.1.isSome)
      && decide ([e].length + ([] : List Keyword).length + (if ([] : List Keyword).isEmpty then 0 else 1) < 30)) = true := by rfl)
    (hline : (apos.endLine == cpos.line) = true := by rfl) (hs : starEach [e] X.env = (false, eval e X.env) :: starEach [] X.env := by rfl)
    (hplain : (backTo cpos (starEach [] X.env)).any (·.1) = false := by rfl) (hsw : swapsWith (.Call (.Attribute (.Name x p) "extend" apos) [e] [] cpos) none pos.line X.env = pure false := by rfl) :
    EvS X (.Expr (.Call (.Attribute (.Name x p) "extend" apos) [e] [] cpos) pos) (wExtend i we) where
  ps := PS.weak (ps_expr (pe_bm F.plainAttrs_list F.slot_list_extend F.type_list_extend (MtR.or mt_extend mt_extT) (pe_var hN hv hd hcd) (pa_cons h.pe pa_nil hs) hbase hfew hline hs hplain) hsw)
    fun D σ H ⟨c, sd, os, E, hk, r, er, q⟩ => by
    obtain ⟨ds, es, q⟩ := onOw_get q
    obtain ⟨v, oa, h1, h2, a, xs, rfl, rfl, h3, h4, h5⟩ := r.at_ es (by intro z; cases z)
    have na := own_notS r (List.mem_of_getElem? h2)
    refine ⟨_, h1, .inl ⟨rfl, _, .inl (.inl h3)⟩, c, sd, os, hk, r, h.mo _ _ _ (fun d kz y H1 x1 dm => ?_) q⟩
    have g3 := x1.st a _ na h3
    have g4 := DxAll.grow r.sO x1 h4
    cases d with
    | list zs =>
      obtain ⟨b, us, rfl, d1, d2⟩ := dm
      refine .inl ⟨a, b, xs, us, rfl, rfl, g3, (hid_some d1).2, by rw [h4.len, d2.len]; exact kz.1, ?_⟩
      exact er.nx _ _ _ _ (R.upd (r.grow x1) h2 (g4.app (by rw [hk]; exact d2))) kz.2
    | tuple zs =>
      obtain ⟨b, us, rfl, d1, d2⟩ := shTup dm
      refine .inr ⟨a, b, xs, us, rfl, rfl, g3, SqT.same hid_sub d1, by rw [h4.len, d2.len]; exact kz.1, ?_⟩
      exact er.nx _ _ _ _ (R.upd (r.grow x1) h2 (g4.app (by rw [hk]; exact d2))) kz.2
    | _ => exact kz.elim
  mo := fun E E' sd h1 _ _ _ q => by
    obtain ⟨ds, es, q⟩ := onOw_get q
    exact onOw_put es (h.mo _ _ _ (fun z y => dItems_mo (fun zs y => ⟨y.1, h1 _ y.2⟩) y) q)
abbrev WM := SD → (RV → SD → Prop) → Prop
def tMu (K : PySem.W.Frag) (w : WM) : TE := fun σ H Q => ∃ (c : Cd) (sd : SD) (os : List (Option Addr)), c.K = K ∧ R c sd os σ H ∧
  w sd fun z sd' => ∀ v H1 H' os', R c sd' os' σ H1 → Ext c.S H1 H' → RvR K (OO c os') H1 H' v z → Q v H'
structure EvM (X : Cx) (e : Expr) (w : WM) : Prop where
  pe : PE X e (tMu X.K w)
  mo : ∀ sd (Q Q' : RV → SD → Prop), (∀ r s, Q r s → Q' r s) → w sd Q → w sd Q'
theorem EvR.m {w : WR} (h : EvR X e w) : EvM X e (fun sd Q => w sd fun z => Q z sd) where
  pe := PE.weak h.pe fun σ H Q ⟨c, sd, os, hk, r, q⟩ => ⟨c, sd, os, hk, r, h.mo _ _ _ (fun z k v H' x rv => k v H H' os r x rv) q⟩
  mo := fun sd Q Q' k q => h.mo _ _ _ (fun r z => k _ _ z) q
def wPop (i : Nat) : WM := fun sd Q => onOw i sd fun ds => match ds.getLast? with
  | some d => Q (.va d) (sd.set i (.ow ds.dropLast))
  | none => False
theorem DxAll.dropLast {K : PySem.W.Frag} {H : Hp} {vs : List V} {ds : List PyData} (h : DxAll K H vs ds) : DxAll K H vs.dropLast ds.dropLast := by
  rw [List.dropLast_eq_take, List.dropLast_eq_take, h.len]
  exact h.take _
theorem evm_pop (i : Nat) (hN : X.N[i]? = some x := by rfl)
    (hv : Vis X.env.scope x := by first | exact Or.inl rfl | exact Or.inr (Or.inl rfl) | exact Or.inr (Or.inr rfl))
    (hd : (x == ("__debug__" : Str)) = false := by decide) (hcd : (x == ("__classdict__" : Str)) = false := by decide)
    (hbase : attributeBase (.Name x p) "pop" X.env (eval (.Name x p) X.env) = eval (.Name x p) X.env := by rfl) (hline : (apos.endLine == cpos.line) = true := by rfl) :
    EvM X (.Call (.Attribute (.Name x p) "pop" apos) [] [] cpos) (wPop i) where
  pe := PE.weak (pe_bm0 F.plainAttrs_list F.slot_list_pop F.type_list_pop mt_pop (pe_var hN hv hd hcd) hbase hline) fun σ H Q ⟨c, sd, os, hk, r, q⟩ => by
    obtain ⟨ds, es, q⟩ := onOw_get q
    obtain ⟨v, oa, h1, h2, a, xs, rfl, rfl, h3, h4, h5⟩ := r.at_ es (by intro z; cases z)
    cases g : ds.getLast? with
    | none => rw [g] at q; exact q.elim
    | some d =>
      rw [g] at q
      rw [List.getLast?_eq_getElem?] at g
      obtain ⟨y, g1, g2⟩ := h4.get g
      refine ⟨_, h1, .inl ⟨rfl, _, .inl (.inl h3)⟩, a, xs, y, rfl, rfl, h3, by rw [h4.len]; exact g1, ?_⟩
      have hO : a ∈ OO c os := mem_OO.mpr (.inr (List.mem_of_getElem? h2))
      refine q y _ _ os (R.upd r h2 h4.dropLast) Ext.refl ?_
      show Dx X.K (hid (OO c os) _) y d
      rw [hid_upd hO, ← hk]
      exact g2
  mo := fun sd Q Q' k q => by
    obtain ⟨ds, es, q⟩ := onOw_get q
    refine onOw_put es ?_
    cases g : ds.getLast? with
    | none => rw [g] at q; exact q.elim
    | some d => rw [g] at q; exact k _ _ q
/-- a list of one's own is handed on: from now on nobody changes it -/
theorem R.frz {c : Cd} {sd : SD} {os : List (Option Addr)} {σ : L2.St} {H : Hp} {i : Nat} {ds : List PyData} (r : R c sd os σ H) (es : getS sd i = .ow ds) :
    ∃ v, σ[i]? = some (some v) ∧ R c (sd.set i (.va (.list ds))) (os.set i none) σ H ∧ Dx c.K (hid (OO c (os.set i none)) H) v (.list ds) := by
  obtain ⟨v, oa, h1, h2, a, xs, rfl, rfl, h3, h4, h5⟩ := r.at_ es (by intro z; cases z)
  have nO : a ∉ OO c (os.set i none) := fun m => by
    rcases mem_OO.mp m with q | q
    · exact r.dis a (List.mem_of_getElem? h2) q
    · obtain ⟨j, hj, e⟩ := List.getElem_of_mem q
      rcases set_get (show (os.set i none)[j]? = some (some a) by rw [List.getElem?_eq_getElem hj, e]) with ⟨_, z⟩ | ⟨n, z⟩
      · cases z
      · exact n (r.uniq j i a z h2)
  have sub : Same (hid (OO c os) H) (hid (OO c (os.set i none)) H) := hid_same (fun _ _ _ h => h) fun b m => by
    rcases mem_OO.mp m with q | q
    · exact .inl (mem_OO.mpr (.inl q))
    · obtain ⟨j, hj, e⟩ := List.getElem_of_mem q
      rcases set_get (show (os.set i none)[j]? = some (some b) by rw [List.getElem?_eq_getElem hj, e]) with ⟨_, z⟩ | ⟨_, z⟩
      · cases z
      · exact .inl (mem_OO.mpr (.inr (List.mem_of_getElem? z)))
  have dx : Dx c.K (hid (OO c (os.set i none)) H) (.ref a) (.list ds) := .lst (by rw [hid_out nO]; exact h3) (DxAll.same sub _ _ h4)
  refine ⟨_, h1, ⟨r.ext, r.src, r.sin, r.ocl, by simp [r.lend], by simp [r.leno], fun j s w oa g1 g2 g3 => ?_, fun j k b g1 g2 => ?_, fun p m => Dx.same sub _ _ (r.tmp p m), fun b m => ?_⟩, dx⟩
  · rcases set_get g1 with ⟨ej, e1⟩ | ⟨nj, e1⟩
    · subst ej e1
      rcases set_get g3 with ⟨_, e3⟩ | ⟨n, _⟩
      · subst e3
        rw [h1] at g2; cases g2
        exact ⟨rfl, _, rfl, dx⟩
      · exact absurd rfl n
    · rcases set_get g3 with ⟨n, _⟩ | ⟨_, e3⟩
      · exact absurd n nj
      · have q := r.slot j s w oa e1 g2 e3
        cases s with
        | un => exact q
        | so => exact q
        | fn _ => exact q
        | va d => obtain ⟨q1, y, q2, q3⟩ := q; exact ⟨q1, y, q2, Dx.same sub _ _ q3⟩
        | ow ds => obtain ⟨a, xs, q1, q2, q3, q4, q5⟩ := q; exact ⟨a, xs, q1, q2, q3, DxAll.same sub _ _ q4, q5⟩
        | od ds => obtain ⟨a, xs, q1, q2, q3, q4, q5⟩ := q; exact ⟨a, xs, q1, q2, q3, DE.same sub q4, q5⟩
  · rcases set_get g1 with ⟨_, e⟩ | ⟨n1, e1⟩
    · cases e
    · rcases set_get g2 with ⟨_, e⟩ | ⟨n2, e2⟩
      · cases e
      · exact r.uniq j k b e1 e2
  · obtain ⟨j, hj, e⟩ := List.getElem_of_mem m
    rcases set_get (show (os.set i none)[j]? = some (some b) by rw [List.getElem?_eq_getElem hj, e]) with ⟨_, z⟩ | ⟨_, z⟩
    · cases z
    · exact r.dis b (List.mem_of_getElem? z)
/-- a list of one's own is handed on: from now on nobody changes it -/
theorem R.frzO {c : Cd} {sd : SD} {os : List (Option Addr)} {σ : L2.St} {H : Hp} {i : Nat} {ds : List (PyData × PyData)} (r : R c sd os σ H) (es : getS sd i = .od ds) :
    ∃ v, σ[i]? = some (some v) ∧ R c (sd.set i (.va (.dict ds))) (os.set i none) σ H ∧ Dx c.K (hid (OO c (os.set i none)) H) v (.dict ds) := by
  obtain ⟨v, oa, h1, h2, a, xs, rfl, rfl, h3, h4, h5⟩ := r.at_ es (by intro z; cases z)
  have nO : a ∉ OO c (os.set i none) := fun m => by
    rcases mem_OO.mp m with q | q
    · exact r.dis a (List.mem_of_getElem? h2) q
    · obtain ⟨j, hj, e⟩ := List.getElem_of_mem q
      rcases set_get (show (os.set i none)[j]? = some (some a) by rw [List.getElem?_eq_getElem hj, e]) with ⟨_, z⟩ | ⟨n, z⟩
      · cases z
      · exact n (r.uniq j i a z h2)
  have sub : Same (hid (OO c os) H) (hid (OO c (os.set i none)) H) := hid_same (fun _ _ _ h => h) fun b m => by
    rcases mem_OO.mp m with q | q
    · exact .inl (mem_OO.mpr (.inl q))
    · obtain ⟨j, hj, e⟩ := List.getElem_of_mem q
      rcases set_get (show (os.set i none)[j]? = some (some b) by rw [List.getElem?_eq_getElem hj, e]) with ⟨_, z⟩ | ⟨_, z⟩
      · cases z
      · exact .inl (mem_OO.mpr (.inr (List.mem_of_getElem? z)))
  have dx : Dx c.K (hid (OO c (os.set i none)) H) (.ref a) (.dict ds) := DE.dx (by rw [hid_out nO]; exact h3) (DE.same sub h4)
  refine ⟨_, h1, ⟨r.ext, r.src, r.sin, r.ocl, by simp [r.lend], by simp [r.leno], fun j s w oa g1 g2 g3 => ?_, fun j k b g1 g2 => ?_, fun p m => Dx.same sub _ _ (r.tmp p m), fun b m => ?_⟩, dx⟩
  · rcases set_get g1 with ⟨ej, e1⟩ | ⟨nj, e1⟩
    · subst ej e1
      rcases set_get g3 with ⟨_, e3⟩ | ⟨n, _⟩
      · subst e3
        rw [h1] at g2; cases g2
        exact ⟨rfl, _, rfl, dx⟩
      · exact absurd rfl n
    · rcases set_get g3 with ⟨n, _⟩ | ⟨_, e3⟩
      · exact absurd n nj
      · have q := r.slot j s w oa e1 g2 e3
        cases s with
        | un => exact q
        | so => exact q
        | fn _ => exact q
        | va d => obtain ⟨q1, y, q2, q3⟩ := q; exact ⟨q1, y, q2, Dx.same sub _ _ q3⟩
        | ow ds => obtain ⟨a, xs, q1, q2, q3, q4, q5⟩ := q; exact ⟨a, xs, q1, q2, q3, DxAll.same sub _ _ q4, q5⟩
        | od ds => obtain ⟨a, xs, q1, q2, q3, q4, q5⟩ := q; exact ⟨a, xs, q1, q2, q3, DE.same sub q4, q5⟩
  · rcases set_get g1 with ⟨_, e⟩ | ⟨n1, e1⟩
    · cases e
    · rcases set_get g2 with ⟨_, e⟩ | ⟨n2, e2⟩
      · cases e
      · exact r.uniq j k b e1 e2
  · obtain ⟨j, hj, e⟩ := List.getElem_of_mem m
    rcases set_get (show (os.set i none)[j]? = some (some b) by rw [List.getElem?_eq_getElem hj, e]) with ⟨_, z⟩ | ⟨_, z⟩
    · cases z
    · exact r.dis b (List.mem_of_getElem? z)
def wFrz (i : Nat) : WM := fun sd Q => match getS sd i with
  | .ow ds => Q (.va (.list ds)) (sd.set i (.va (.list ds)))
  | .od es => Q (.va (.dict es)) (sd.set i (.va (.dict es)))
  | .va d => Q (.va d) sd
  | _ => False
theorem evm_frz (i : Nat) (hN : X.N[i]? = some x := by rfl)
    (hv : Vis X.env.scope x := by first | exact Or.inl rfl | exact Or.inr (Or.inl rfl) | exact Or.inr (Or.inr rfl))
    (hd : (x == ("__debug__" : Str)) = false := by decide) (hcd : (x == ("__classdict__" : Str)) = false := by decide) : EvM X (.Name x pos) (wFrz i) where
  pe := PE.weak (pe_var hN hv hd hcd) fun σ H Q ⟨c, sd, os, hk, r, q⟩ => by
    unfold wFrz at q
    cases es : getS sd i with
    | ow ds =>
      rw [es] at q
      obtain ⟨v, h1, r', dx⟩ := r.frz es
      exact ⟨v, h1, q v H H _ r' Ext.refl (show Dx X.K _ v _ by rw [← hk]; exact dx)⟩
    | od ds =>
      rw [es] at q
      obtain ⟨v, h1, r', dx⟩ := r.frzO es
      exact ⟨v, h1, q v H H _ r' Ext.refl (show Dx X.K _ v _ by rw [← hk]; exact dx)⟩
    | va d =>
      rw [es] at q
      obtain ⟨v, oa, h1, h2, h3, y, rfl, h4⟩ := r.at_ es (by intro z; cases z)
      exact ⟨y, h1, q y H H os r Ext.refl (show Dx X.K _ y d by rw [← hk]; exact h4)⟩
    | un => rw [es] at q; exact q.elim
    | so => rw [es] at q; exact q.elim
    | fn _ => rw [es] at q; exact q.elim
  mo := fun sd Q Q' k q => by
    unfold wFrz at q ⊢
    cases es : getS sd i with
    | ow ds => rw [es] at q; exact k _ _ q
    | od ds => rw [es] at q; exact k _ _ q
    | va ds => rw [es] at q; exact k _ _ q
    | un => rw [es] at q; exact q.elim
    | so => rw [es] at q; exact q.elim
    | fn _ => rw [es] at q; exact q.elim
/-- name = such an expression -/
theorem evs_setM {we : WM} {pos' : Pos} (i : Nat) (h : EvM X e we) (hN : X.N.Nodup) (hi : X.N[i]? = some x := by rfl) (hx : Loc X.env.scope x := by first | exact Or.inl rfl | exact Or.inr rfl)
    (hs : swapsWith e (some (.Name x pos')) pos.line X.env = pure false := by rfl) (hf : X.fn x = true ∨ X.env.scope.names.lookup x = some .local := by first | exact .inl rfl | exact .inr rfl) :
    EvS X (.Assign [.Name x pos'] e pos) (fun E sd => we sd fun z sd' => E.nx (sd'.set i z.sv)) where
  ps := PS.weak (ps_set hN hi hx h.pe hs hf) fun D σ H ⟨c, sd, os, E, hk, r, er, q⟩ => ⟨c, sd, os, hk, r, h.mo _ _ _ (fun z sd' kz v H1 H' os' r1 x rv => by
    obtain ⟨oa, r'⟩ := R.set (i := i) r1 x (by rw [hk]; exact rv)
    exact er.nx _ _ _ _ r' kz) q⟩
  mo := fun E E' sd h1 _ _ _ q => h.mo _ _ _ (fun z s y => h1 _ y) q
/-- what a loop's body is to reach -/
def loopE (E : ED) (P : SD → Prop) : ED := { nx := P, rt := E.rt, bk := E.nx, ct := P }
def wWhile (t : WB) (wb : WS) : WS := fun E sd => ∃ I : Nat → SD → Prop, (∃ m, I m sd) ∧ ∀ m sd, I m sd → t sd fun b =>
  if b = true then wb (loopE E fun s => ∃ m', m' < m ∧ I m' s) sd else E.nx sd
theorem evs_while {tst : Expr} {body : List Stmt} {t : WB} {wb : WS} (hc : EvT X tst t) (hb : EvB X body wb) (hp : PassesOwn (model X.prog X.w) X.A X.env X.xe := by exact PassesOwn.never) :
    EvS X (.While tst body [] pos) (wWhile t wb) where
  ps := PS.weak (ps_while hp hc.pt hb.ps) fun D σ H ⟨c, sd, os, E, hk, r, er, I, ⟨m0, i0⟩, q⟩ => by
    refine ⟨fun m σ H => ∃ sd os, R c sd os σ H ∧ I m sd, ⟨m0, sd, os, r, i0⟩, fun m σ H ⟨sd, os, r, im⟩ => ?_⟩
    refine ⟨c, sd, os, hk, r, hc.mo _ _ _ (fun b kb H1 x1 => ?_) (q m sd im)⟩
    cases b with
    | false => exact er.nx _ _ _ _ (r.grow x1) kb
    | true =>
      refine ⟨fun σ' H' => ∃ sd os, R c sd os σ' H' ∧ ∃ m', m' < m ∧ I m' sd, fun σ' H' ⟨sd, os, r, m', l, i⟩ => ⟨m', l, sd, os, r, i⟩, ?_⟩
      exact ⟨c, sd, os, loopE E fun s => ∃ m', m' < m ∧ I m' s, hk, r.grow x1, ⟨fun sd os σ H r k => ⟨sd, os, r, k⟩, er.nx, fun sd os σ H r k => ⟨sd, os, r, k⟩, er.rt⟩, kb⟩
  mo := fun E E' sd h1 h2 h3 h4 ⟨I, i0, q⟩ => ⟨I, i0, fun m sd im => hc.mo _ _ _ (fun b kb => by
    cases b with
    | true => exact hb.mo (loopE E fun s => ∃ m', m' < m ∧ I m' s) (loopE E' fun s => ∃ m', m' < m ∧ I m' s) sd (fun _ z => z) h2 h1 (fun _ z => z) kb
    | false => exact h1 _ kb) (q m sd im)⟩
end
end DL
set_option Elab.async false
set_option linter.all false
set_option maxRecDepth 100000
set_option maxHeartbeats 4000000
namespace DL
open PySem PySem.Spec PyProof.Rows L2
variable [Tb]
abbrev WG := PyData → SD → (SD → Prop) → Prop
abbrev WGs := List PyData → SD → (SD → Prop) → Prop
/-- only the slots told are other ones -/
def But (is : List Nat) (σ σ' : L2.St) (os os' : List (Option Addr)) : Prop := σ'.length = σ.length ∧ ∀ j, j ∉ is → σ'[j]? = σ[j]? ∧ os'[j]? = os[j]?
theorem But.refl {is : List Nat} {σ : L2.St} {os : List (Option Addr)} : But is σ σ os os := ⟨rfl, fun _ _ => ⟨rfl, rfl⟩⟩
theorem But.trans {is js : List Nat} {σ σ1 σ2 : L2.St} {os os1 os2 : List (Option Addr)} (a : But is σ σ1 os os1) (b : But js σ1 σ2 os1 os2) : But (is ++ js) σ σ2 os os2 :=
  ⟨b.1.trans a.1, fun j n => by
    obtain ⟨x1, x2⟩ := a.2 j fun m => n (List.mem_append_left _ m)
    obtain ⟨y1, y2⟩ := b.2 j fun m => n (List.mem_append_right _ m)
    exact ⟨y1.trans x1, y2.trans x2⟩⟩
def tGt (K : PySem.W.Frag) (is : List Nat) (g : WG) : TG := fun v σ H Q => ∃ (c : Cd) (sd : SD) (os : List (Option Addr)) (d : PyData), c.K = K ∧ R c sd os σ H ∧ Dx K (hid (OO c os) H) v d ∧
  g d sd fun sd' => ∀ σ' os', R c sd' os' σ' H → But is σ σ' os os' → Q σ' H
def tGs (K : PySem.W.Frag) (is : List Nat) (g : WGs) : TGs := fun vs σ H Q => ∃ (c : Cd) (sd : SD) (os : List (Option Addr)) (ds : List PyData), c.K = K ∧ R c sd os σ H ∧ DxAll K (hid (OO c os) H) vs ds ∧
  g ds sd fun sd' => ∀ σ' os', R c sd' os' σ' H → But is σ σ' os os' → Q σ' H
structure EvG (X : Cx) (tg : Expr) (is : List Nat) (g : WG) : Prop where
  pg : PG X tg (tGt X.K is g)
  mo : ∀ d sd (Q Q' : SD → Prop), (∀ s, Q s → Q' s) → g d sd Q → g d sd Q'
structure EvGs (X : Cx) (tg : List Expr) (is : List Nat) (g : WGs) : Prop where
  pg : PGs X tg (tGs X.K is g)
  mo : ∀ d sd (Q Q' : SD → Prop), (∀ s, Q s → Q' s) → g d sd Q → g d sd Q'
theorem PG.weak {X : Cx} {e : Expr} {t t' : TG} (h : PG X e t) (k : ∀ v σ H Q, t' v σ H Q → t v σ H Q) : PG X e t' :=
  ⟨fun pins s σ H v u Q I r q => h.run pins s σ H v u Q I r (k v σ H Q q)⟩
theorem PGs.weak {X : Cx} {e : List Expr} {t t' : TGs} (h : PGs X e t) (k : ∀ v σ H Q, t' v σ H Q → t v σ H Q) : PGs X e t' :=
  ⟨fun pins s σ H v u Q I r q => h.run pins s σ H v u Q I r (k v σ H Q q)⟩
/-- more that stays -/
theorem R.more {c : Cd} {sd : SD} {os : List (Option Addr)} {σ : L2.St} {H : Hp} (r : R c sd os σ H) (t : List (V × PyData)) (h : ∀ p ∈ t, Dx c.K (hid (OO c os) H) p.1 p.2) : R { c with T := t ++ c.T } sd os σ H :=
  ⟨r.ext, r.src, r.sin, r.ocl, r.lend, r.leno, r.slot, r.uniq, fun p m => (List.mem_append.mp m).elim (h p) (r.tmp p), r.dis⟩
theorem R.less {c : Cd} {sd : SD} {os : List (Option Addr)} {σ : L2.St} {H : Hp} {t : List (V × PyData)} (r : R { c with T := t ++ c.T } sd os σ H) : R c sd os σ H :=
  ⟨r.ext, r.src, r.sin, r.ocl, r.lend, r.leno, r.slot, r.uniq, fun p m => r.tmp p (List.mem_append_right _ m), r.dis⟩
theorem zip_of {K : PySem.W.Frag} {H : Hp} : ∀ {vs : List V} {ds : List PyData}, DxAll K H vs ds → ∀ p ∈ vs.zip ds, Dx K H p.1 p.2
  | _, _, .nil, p, m => by cases m
  | _, _, .cons h t, p, m => by
    rw [List.zip_cons_cons] at m
    rcases List.mem_cons.mp m with rfl | m
    · exact h
    · exact zip_of t p m
theorem of_zip {K : PySem.W.Frag} {H : Hp} : ∀ {vs : List V} {ds : List PyData}, vs.length = ds.length → (∀ p ∈ vs.zip ds, Dx K H p.1 p.2) → DxAll K H vs ds
  | [], [], _, _ => .nil
  | v :: vs, d :: ds, e, h => .cons (h (v, d) (by rw [List.zip_cons_cons]; exact List.mem_cons_self)) (of_zip (by simpa using e) fun p m => h p (by rw [List.zip_cons_cons]; exact List.mem_cons_of_mem _ m))
section
variable {X : Cx} {e : Expr} {es : List Expr} {pos p apos cpos : Pos} {x : Str}
def gtName (i : Nat) : WG := fun d sd Q => Q (sd.set i (.va d))
theorem evg_name (i : Nat) (hN : X.N.Nodup) (hi : X.N[i]? = some x := by rfl) (hx : Loc X.env.scope x := by first | exact Or.inl rfl | exact Or.inr rfl)
    (hf : X.fn x = true ∨ X.env.scope.names.lookup x = some .local := by first | exact .inl rfl | exact .inr rfl) : EvG X (.Name x pos) [i] (gtName i) where
  pg := PG.weak (pg_name hN hi hx hf) fun v σ H Q ⟨c, sd, os, d, hk, r, dx, q⟩ => by
    obtain ⟨oa, r'⟩ := R.set (i := i) (z := .va d) r Ext.refl (show Dx c.K (hid (OO c os) H) v d by rw [hk]; exact dx)
    refine q _ _ r' ⟨by simp, fun j n => ?_⟩
    have nj : i ≠ j := fun e => n (by rw [e]; exact List.mem_cons_self)
    exact ⟨List.getElem?_set_ne nj, List.getElem?_set_ne nj⟩
  mo := fun d sd Q Q' k q => k _ q
def gtNil : WGs := fun ds sd Q => ds = [] ∧ Q sd
def gtCons (g : WG) (gs : WGs) : WGs := fun ds sd Q => match ds with
  | [] => False
  | d :: ds => g d sd fun sd' => gs ds sd' Q
theorem evgs_nil : EvGs X [] [] gtNil where
  pg := PGs.weak pgs_nil fun vs σ H Q ⟨c, sd, os, ds, hk, r, dx, e, q⟩ => by
    subst e
    cases dx
    exact ⟨rfl, q _ _ r But.refl⟩
  mo := fun d sd Q Q' k q => ⟨q.1, k _ q.2⟩
theorem evgs_cons {g : WG} {gs : WGs} {is js : List Nat} (h : EvG X e is g) (t : EvGs X es js gs)
    (hs : (assignEach (e :: es) X.env).map (·.2) = assign e X.env :: (assignEach es X.env).map (·.2) := by rfl) : EvGs X (e :: es) (is ++ js) (gtCons g gs) where
  pg := PGs.weak (pgs_cons h.pg t.pg hs) fun vs σ H Q ⟨c, sd, os, ds, hk, r, dx, q⟩ => by
    cases dx with
    | nil => exact q.elim
    | @cons v vs d ds d1 d2 =>
      have dd : ∀ p ∈ vs.zip ds, Dx c.K (hid (OO c os) H) p.1 p.2 := by rw [hk]; exact zip_of d2
      have lz := d2.len
      refine ⟨v, vs, rfl, { c with T := vs.zip ds ++ c.T }, sd, os, d, hk, r.more _ dd, d1, h.mo _ _ _ _ (fun sd' k σ' os' r' b => ?_) q⟩
      refine ⟨c, sd', os', ds, hk, r'.less, of_zip lz fun p m => ?_, t.mo _ _ _ _ (fun sd2 k2 σ2 os2 r2 b2 => k2 σ2 os2 r2 (b.trans b2)) k⟩
      have := r'.tmp p (List.mem_append_left _ m)
      rw [← hk]
      exact this
  mo := fun d sd Q Q' k q => by
    cases d with
    | nil => exact q.elim
    | cons d ds => exact h.mo _ _ _ _ (fun s z => t.mo _ _ _ _ k z) q
def gtTup (n : Nat) (gs : WGs) : WG := fun d sd Q => match d with
  | .tuple ds => ds.length = n ∧ gs ds sd Q
  | _ => False
theorem evg_tup {gs : WGs} {k n : Nat} {is : List Nat} (hc : X.calm = true) (h : EvGs X es is gs) (hn : (assignEach es X.env).length = n := by rfl) (hst : (assignEach es X.env).findIdx? (·.1) = none := by rfl) : EvG X (.Tuple es k pos) is (gtTup n gs) where
  pg := PG.weak (pg_tup hc h.pg hn hst) fun v σ H Q ⟨c, sd, os, d, hk, r, dx, q⟩ => by
    cases d with
    | tuple ds =>
      cases dx with
      | tup h1 h2 => exact ⟨_, _, rfl, SqN.sqs hid_sub h1, by rw [h2.len]; exact q.1, c, sd, os, ds, hk, r, h2, q.2⟩
    | _ => exact q.elim
  mo := fun d sd Q Q' k q => by
    cases d with
    | tuple ds => exact ⟨q.1, h.mo _ _ _ _ k q.2⟩
    | _ => exact q.elim
/-- a target = an expression -/
theorem evs_asg {tg : Expr} {we : WM} {g : WG} {is : List Nat} (h : EvM X e we) (hg : EvG X tg is g) (hs : swapsWithSole [tg] e pos.line X.env = pure false := by rfl) (hw : swappedStores [tg] e X.env = pure none := by rfl)
    (h1 : (assignEach [tg] X.env).map (·.2) = [assign tg X.env] := by rfl) : EvS X (.Assign [tg] e pos) (fun E sd => we sd fun z sd' => g z.dat sd' E.nx) where
  ps := PS.weak (ps_asg h.pe hg.pg hs hw h1) fun D σ H ⟨c, sd, os, E, hk, r, er, q⟩ => ⟨c, sd, os, hk, r, h.mo _ _ _ (fun z sd' kz v H1 H' os' r1 x rv =>
    ⟨c, sd', os', z.dat, hk, r1.grow x, RvR.cl rv fun b m => r1.there m, hg.mo _ _ _ _ (fun s y σ' os' r' _ => er.nx _ _ _ _ r' y) kz⟩) q⟩
  mo := fun E E' sd k1 _ _ _ q => h.mo _ _ _ (fun z s y => hg.mo _ _ _ _ k1 y) q
/-- a, b = x, y -/
theorem RvR.grow {K : PySem.W.Frag} {S O : List Addr} {H H1 H' : Hp} {v : V} {z : RV} (hs : ∀ a ∈ S, a ∈ O) (hn : ∀ a ∈ S, H a ≠ none) (x : Ext S H1 H') (h : RvR K O H H1 v z) : RvR K O H H' v z := by
  cases z with
  | va d => exact Dx.grow (S := S) hs x h
  | fr ds =>
    obtain ⟨p, xs, e1, e2, e3, e4⟩ := h
    exact ⟨p, xs, e1, e2, x.st p _ (fun z => hn p z e2) e3, DxAll.grow (S := S) (fun a m => List.mem_cons_of_mem _ (hs a m)) x e4⟩
  | fd es =>
    obtain ⟨p, xs, e1, e2, e3, e4⟩ := h
    exact ⟨p, xs, e1, e2, x.st p _ (fun z => hn p z e2) e3, DE.grow (S := S) (fun a m => List.mem_cons_of_mem _ (hs a m)) x e4⟩
/-- a new list is hidden -/
theorem R.hide {c : Cd} {sd : SD} {os : List (Option Addr)} {σ : L2.St} {H H' : Hp} {p : Addr} {o : HO} (r : R c sd os σ H) (x : Ext c.S H H') (hp : H p = none) (hp' : H' p = some o) (ho : IsOwn o) : R { c with Oc := p :: c.Oc } sd os σ H' := by
  have rr := r.grow x
  have nO : p ∉ OO c os := r.newOut hp
  have sub : Same (hid (OO c os) H) (hid (OO { c with Oc := p :: c.Oc } os) H') := hid_same (fun a o n e => x.st a o (fun z => n (r.sO a z)) e) fun a m => by
    rcases mem_OO.mp m with q | q
    · rcases List.mem_cons.mp q with rfl | q
      · exact .inr hp
      · exact .inl (mem_OO.mpr (.inl q))
    · exact .inl (mem_OO.mpr (.inr q))
  refine ⟨rr.ext, r.src, fun a m => List.mem_cons_of_mem _ (r.sin a m), fun a m => ?_, r.lend, r.leno, fun i s v oa h1 h2 h3 => ?_, r.uniq, fun q m => Dx.same sub _ _ (r.tmp q m), fun a m z => ?_⟩
  · rcases List.mem_cons.mp m with rfl | m
    · exact .inr ⟨o, hp', ho⟩
    · exact rr.ocl a m
  · have q := r.slot i s v oa h1 h2 h3
    cases s with
    | un => exact q
    | so => exact q
    | fn _ => exact q
    | va d => obtain ⟨q1, y, q2, q3⟩ := q; exact ⟨q1, y, q2, Dx.same sub _ _ q3⟩
    | ow ds =>
      obtain ⟨b, ys, q1, q2, q3, q4, q5⟩ := q
      subst q1
      exact ⟨b, ys, rfl, q2, x.st b _ (own_notS r (List.mem_of_getElem? h3)) q3, DxAll.same sub _ _ q4, q5⟩
    | od ds =>
      obtain ⟨b, ys, q1, q2, q3, q4, q5⟩ := q
      subst q1
      exact ⟨b, ys, rfl, q2, x.st b _ (own_notS r (List.mem_of_getElem? h3)) q3, DE.same sub q4, q5⟩
  · rcases List.mem_cons.mp z with rfl | z
    · exact nO (mem_OO.mpr (.inr m))
    · exact r.dis a m z
end
end DL
set_option Elab.async false
set_option linter.all false
set_option maxRecDepth 100000
set_option maxHeartbeats 4000000
namespace DL
open PySem PySem.Spec PyProof.Rows L2
variable [Tb]
theorem R.adoptG {c : Cd} {sd : SD} {os : List (Option Addr)} {σ : L2.St} {H : Hp} {p : Addr} {sv : SV} (i : Nat) (r : R { c with Oc := p :: c.Oc } sd os σ H)
    (hn : p ∉ c.Oc) (hsn : ∀ a ∈ c.S, a ∈ c.Oc) (hd : ∀ O : List Addr, Same (hid (OO { c with Oc := p :: c.Oc } os) H) (hid O H) → SlotR c O H sv (some (.ref p)) (some p)) :
    ∃ os', R c (sd.set i sv) os' (σ.set i (some (.ref p))) H := by
  have np : some p ∉ os := fun m => r.dis p m List.mem_cons_self
  have sub : Same (hid (OO { c with Oc := p :: c.Oc } os) H) (hid (OO c (os.set i (some p))) H) := hid_same (fun _ _ _ h => h) fun a m => by
    rcases mem_OO.mp m with q | q
    · exact .inl (mem_OO.mpr (.inl (List.mem_cons_of_mem _ q)))
    · obtain ⟨j, hj, e⟩ := List.getElem_of_mem q
      rcases set_get (show (os.set i (some p))[j]? = some (some a) by rw [List.getElem?_eq_getElem hj, e]) with ⟨_, z⟩ | ⟨_, z⟩
      · cases z; exact .inl (mem_OO.mpr (.inl List.mem_cons_self))
      · exact .inl (mem_OO.mpr (.inr (List.mem_of_getElem? z)))
  refine ⟨os.set i (some p), r.ext, r.src, hsn, fun a m => r.ocl a (List.mem_cons_of_mem _ m), by simp [r.lend], by simp [r.leno], fun j s w oa h1 h2 h3 => ?_, fun j k a h1 h2 => ?_, fun q m => Dx.same sub _ _ (r.tmp q m), fun a m z => ?_⟩
  · rcases set_get h1 with ⟨ej, e1⟩ | ⟨nj, e1⟩
    · subst ej e1
      rcases set_get h2 with ⟨_, e2⟩ | ⟨n, _⟩
      · rcases set_get h3 with ⟨_, e3⟩ | ⟨n, _⟩
        · subst e2 e3
          exact hd _ sub
        · exact absurd rfl n
      · exact absurd rfl n
    · rcases set_get h2 with ⟨n, _⟩ | ⟨_, e2⟩
      · exact absurd n nj
      · rcases set_get h3 with ⟨n, _⟩ | ⟨_, e3⟩
        · exact absurd n nj
        · have q := r.slot j s w oa e1 e2 e3
          cases s with
          | un => exact q
          | so => exact q
          | fn _ => exact q
          | va d => obtain ⟨q1, y, q2, q3⟩ := q; exact ⟨q1, y, q2, Dx.same sub _ _ q3⟩
          | ow ds => obtain ⟨a, xs, q1, q2, q3, q4, q5⟩ := q; exact ⟨a, xs, q1, q2, q3, DxAll.same sub _ _ q4, q5⟩
          | od ds => obtain ⟨a, xs, q1, q2, q3, q4, q5⟩ := q; exact ⟨a, xs, q1, q2, q3, DE.same sub q4, q5⟩
  · rcases set_get h1 with ⟨ej, e1⟩ | ⟨n1, e1⟩
    · cases e1
      rcases set_get h2 with ⟨ek, e2⟩ | ⟨n2, e2⟩
      · rw [ej, ek]
      · exact absurd (List.mem_of_getElem? e2) np
    · rcases set_get h2 with ⟨ek, e2⟩ | ⟨n2, e2⟩
      · cases e2
        exact absurd (List.mem_of_getElem? e1) np
      · exact r.uniq j k a e1 e2
  · obtain ⟨j, hj, e⟩ := List.getElem_of_mem m
    rcases set_get (show (os.set i (some p))[j]? = some (some a) by rw [List.getElem?_eq_getElem hj, e]) with ⟨_, y⟩ | ⟨_, y⟩
    · cases y; exact hn z
    · exact r.dis a (List.mem_of_getElem? y) (List.mem_cons_of_mem _ z)
theorem R.adopt {c : Cd} {sd : SD} {os : List (Option Addr)} {σ : L2.St} {H : Hp} {p : Addr} {xs : List V} {ds : List PyData} (i : Nat) (r : R { c with Oc := p :: c.Oc } sd os σ H)
    (hp : H p = some (.lst xs)) (h0 : c.H0 p = none) (hn : p ∉ c.Oc) (hsn : ∀ a ∈ c.S, a ∈ c.Oc) (hd : DxAll c.K (hid (OO { c with Oc := p :: c.Oc } os) H) xs ds) :
    ∃ os', R c (sd.set i (.ow ds)) os' (σ.set i (some (.ref p))) H :=
  r.adoptG i hn hsn fun O sub => ⟨p, xs, rfl, rfl, hp, DxAll.same sub _ _ hd, h0⟩
theorem R.adoptD {c : Cd} {sd : SD} {os : List (Option Addr)} {σ : L2.St} {H : Hp} {p : Addr} {o : HO} {es : List (PyData × PyData)} (i : Nat) (r : R { c with Oc := p :: c.Oc } sd os σ H)
    (hp : H p = some o) (h0 : c.H0 p = none) (hn : p ∉ c.Oc) (hsn : ∀ a ∈ c.S, a ∈ c.Oc) (hd : DE c.K (hid (OO { c with Oc := p :: c.Oc } os) H) o es) :
    ∃ os', R c (sd.set i (.od es)) os' (σ.set i (some (.ref p))) H :=
  r.adoptG i hn hsn fun O sub => ⟨p, o, rfl, rfl, hp, DE.same sub hd, h0⟩
section
variable {X : Cx} {a b e : Expr} {es : List Expr} {pos p px py pt apos cpos : Pos} {x y : Str}
theorem evs_par {wa wb : WR} {kt k2 pt2} (i j : Nat) (ha : EvR X a wa) (hb : EvR X b wb) (hc : X.calm = true) (hN : X.N.Nodup) (hi : X.N[i]? = some x := by rfl) (hj : X.N[j]? = some y := by rfl) (hij : i ≠ j := by decide)
    (hx : X.env.scope.names.lookup x = some .local := by rfl) (hy : X.env.scope.names.lookup y = some .local := by rfl)
    (h1 : starEach [a, b] X.env = (false, eval a X.env) :: starEach [b] X.env := by rfl) (h2 : starEach [b] X.env = (false, eval b X.env) :: starEach [] X.env := by rfl)
    (hw : swappedStores [.Tuple [.Name x px, .Name y py] kt pt] (.Tuple [a, b] k2 pt2) X.env = pure (some [x, y]) := by rfl)
    (hs : swapsWithSole [.Tuple [.Name x px, .Name y py] kt pt] (.Tuple [a, b] k2 pt2) pos.line X.env = pure false := by rfl) :
    EvS X (.Assign [.Tuple [.Name x px, .Name y py] kt pt] (.Tuple [a, b] k2 pt2) pos) (fun E sd => wa sd fun z1 => wb sd fun z2 => E.nx ((sd.set i z1.sv).set j z2.sv)) where
  ps := PS.weak (ps_par hc hN hi hj hij hx hy (pa_cons ha.pe (pa_cons hb.pe pa_nil h2) h1) hw hs) fun D σ H ⟨c, sd, os, E, hk, r, er, q⟩ => by
    refine ⟨c, sd, os, hk, r, ha.mo _ _ _ (fun z1 kz v1 H1 x1 rv1 => ?_) q⟩
    cases z1 with
    | va d1 =>
      have rr := (r.grow x1).more [(v1, d1)] (fun q m => by
        rw [List.mem_singleton] at m
        subst m
        rw [hk]
        exact rv1)
      refine ⟨{ c with T := [(v1, d1)] ++ c.T }, sd, os, hk, rr, hb.mo _ _ _ (fun z2 kz v2 H2 x2 rv2 => ⟨v1, v2, rfl, ?_⟩) kz⟩
      obtain ⟨os2, r2⟩ := R.set (i := j) rr x2 (show RvR c.K (OO c os) H1 H2 v2 z2 by rw [hk]; exact rv2)
      have d1' := r2.tmp (v1, d1) (List.mem_append_left _ List.mem_cons_self)
      obtain ⟨os3, r3⟩ := R.set (i := i) (z := .va d1) r2.less Ext.refl d1'
      have r4 : R c ((sd.set j z2.sv).set i (.va d1)) _ ((σ.set j (some v2)).set i (some v1)) H2 := r3
      rw [List.set_comm (l := sd) _ _ (Ne.symm hij), List.set_comm (l := σ) _ _ (Ne.symm hij)] at r4
      exact er.nx _ _ _ _ r4 kz
    | fr d1 =>
      obtain ⟨p1, xs1, rfl, e2, e3, e4⟩ := rv1
      have np : p1 ∉ OO c os := r.newOut e2
      have h0 : c.H0 p1 = none := by
        cases q : c.H0 p1 with
        | none => rfl
        | some o =>
          by_cases z : p1 ∈ c.S
          · exact absurd e2 (r.srcNow.there p1 z)
          · rw [r.ext.st p1 o z q] at e2; cases e2
      have lz := e4.len
      have rr := (r.hide x1 e2 e3 own_lst).more (xs1.zip d1) (fun q m => by
        have := zip_of e4 q m
        rw [← hk] at this
        exact this)
      refine ⟨{ c with Oc := p1 :: c.Oc, T := xs1.zip d1 ++ c.T }, sd, os, hk, rr, hb.mo _ _ _ (fun z2 kz v2 H2 x2 rv2 => ⟨_, v2, rfl, ?_⟩) kz⟩
      obtain ⟨os2, r2⟩ := R.set (i := j) rr x2 (show RvR c.K _ H1 H2 v2 z2 by rw [hk]; exact rv2)
      have hp2 : H2 p1 = some (.lst xs1) := x2.st p1 _ (fun z => np (r.sO p1 z)) e3
      have dz := of_zip (K := c.K) (H := hid (OO { c with Oc := p1 :: c.Oc } (os.set j os2)) H2) lz fun q m => r2.tmp q (List.mem_append_left _ m)
      obtain ⟨os3, r3⟩ := R.adopt (c := c) i r2.less hp2 h0 (fun z => np (mem_OO.mpr (.inl z))) r.sin dz
      rw [List.set_comm (l := sd) _ _ (Ne.symm hij), List.set_comm (l := σ) _ _ (Ne.symm hij)] at r3
      exact er.nx _ _ _ _ r3 kz
    | fd d1 =>
      obtain ⟨p1, o1, rfl, e2, e3, xs1, eo, e4⟩ := rv1
      have np : p1 ∉ OO c os := r.newOut e2
      have h0 : c.H0 p1 = none := by
        cases q : c.H0 p1 with
        | none => rfl
        | some o =>
          by_cases z : p1 ∈ c.S
          · exact absurd e2 (r.srcNow.there p1 z)
          · rw [r.ext.st p1 o z q] at e2; cases e2
      have lz := e4.len
      have rr := (r.hide x1 e2 e3 eo.own).more (xs1.zip (d1.map (·.2))) (fun q m => by
        have := zip_of e4 q m
        rw [← hk] at this
        exact this)
      refine ⟨{ c with Oc := p1 :: c.Oc, T := xs1.zip (d1.map (·.2)) ++ c.T }, sd, os, hk, rr, hb.mo _ _ _ (fun z2 kz v2 H2 x2 rv2 => ⟨_, v2, rfl, ?_⟩) kz⟩
      obtain ⟨os2, r2⟩ := R.set (i := j) rr x2 (show RvR c.K _ H1 H2 v2 z2 by rw [hk]; exact rv2)
      have hp2 : H2 p1 = some o1 := x2.st p1 _ (fun z => np (r.sO p1 z)) e3
      have dz := of_zip (K := c.K) (H := hid (OO { c with Oc := p1 :: c.Oc } (os.set j os2)) H2) lz fun q m => r2.tmp q (List.mem_append_left _ m)
      obtain ⟨os3, r3⟩ := R.adoptD (c := c) i r2.less hp2 h0 (fun z => np (mem_OO.mpr (.inl z))) r.sin ⟨xs1, eo, dz⟩
      rw [List.set_comm (l := sd) _ _ (Ne.symm hij), List.set_comm (l := σ) _ _ (Ne.symm hij)] at r3
      exact er.nx _ _ _ _ r3 kz
  mo := fun E E' sd k1 _ _ _ q => ha.mo _ _ _ (fun z y => hb.mo _ _ _ (fun z2 y => k1 _ y) y) q
/-- e, a list or a tuple -/
theorem pi_seq {tg l : Expr} {tl : TE} (hl : PE X l tl) : PI X tg l (fun σ H R' => tl σ H fun x H1 => (∃ a xs, x = .ref a ∧ SqL X.K H1 a xs ∧ R' (Itl X.K a) H1) ∨ ∃ a xs, x = .ref a ∧ SqT X.K H1 a xs ∧ R' (Itt X.K a) H1) := by
  constructor
  intro pins s σ H R' I h
  apply thn (hl.run pins s σ H _ I h)
  rintro v s1 ⟨x, H1, I1, r1, q1⟩
  have new : ∀ b ∈ [s1.heap.objs.size], FpOk X pins H1 b := by
    intro b hb
    rw [List.mem_singleton] at hb
    subst hb
    exact I1.fpOk (Nat.le_refl _) (I1.hok.fresh (Nat.le_refl _))
  rcases q1 with ⟨a, xs, rfl, hq, q⟩ | ⟨a, xs, rfl, hq, q⟩
  · cases r1
    obtain ⟨its, rv, pl, hz⟩ := I1.list hq
    apply wpAny_pyIter_list pl.isList
    exact ⟨_, [s1.heap.objs.size], _, _, H1, rfl, I1.kept (t' := s1.toks) fun b o e => Heap.get?_push_of_some _ e,
      turn_list a _, ⟨_, Heap.get?_push_size _ rfl, rfl, rfl⟩, new, q⟩
  · cases r1
    obtain ⟨its, rv, pl, hz⟩ := I1.tuple hq
    apply wpAny_pyIter_tuple (show s1.heap.IsTuple a its.toArray from pl)
    exact ⟨_, [s1.heap.objs.size], _, _, H1, rfl, I1.kept (t' := s1.toks) fun b o e => Heap.get?_push_of_some _ e,
      turn_tuple a _, ⟨_, Heap.get?_push_size _ rfl, rfl, rfl⟩, new, q⟩
def ItOk (K : PySem.W.Frag) (J : It) (ds : List PyData) (O : List Addr) (H : Hp) : Prop :=
  (∀ i d, ds[i]? = some d → J.go i H ∧ ∀ x H3, J.yld i H x H3 → H3 = H ∧ Dx K (hid O H) x d) ∧ ∀ i, ds.length ≤ i → J.stop i H
theorem it_l {K : PySem.W.Frag} {O : List Addr} {H : Hp} {a : Addr} {xs : List V} {ds : List PyData} (h : H a = some (.lst xs)) (hd : DxAll K (hid O H) xs ds) : ItOk K (Itl K a) ds O H := by
  refine ⟨fun i d e => ?_, fun i l => ⟨xs, .inl (.inl h), by rw [hd.len]; exact l⟩⟩
  obtain ⟨v, h1, h2⟩ := hd.get e
  refine ⟨⟨xs, v, .inl (.inl h), h1⟩, fun x H3 y => ⟨y.1, ?_⟩⟩
  have := y.2 xs (.inl (.inl h))
  rw [h1] at this
  cases this
  exact h2
theorem it_t {K : PySem.W.Frag} {O : List Addr} {H : Hp} {a : Addr} {xs : List V} {ds : List PyData} (h : SqT K H a xs) (hd : DxAll K (hid O H) xs ds) : ItOk K (Itt K a) ds O H := by
  refine ⟨fun i d e => ?_, fun i l => ⟨xs, h, by rw [hd.len]; exact l⟩⟩
  obtain ⟨v, h1, h2⟩ := hd.get e
  refine ⟨⟨xs, v, h, h1⟩, fun x H3 y => ⟨y.1, ?_⟩⟩
  have := y.2 xs h
  rw [h1] at this
  cases this
  exact h2
def rangeD (lo : Int) (n : Nat) : List PyData := (List.range n).map fun (k : Nat) => PyData.int (lo + k)
theorem it_r {K : PySem.W.Frag} {O : List Addr} {H : Hp} {lo : Int} {n : Nat} : ItOk K (Itr lo n) (rangeD lo n) O H := by
  refine ⟨fun i d e => ?_, fun i l => ?_⟩
  · unfold rangeD at e
    rw [List.getElem?_map] at e
    cases q : (List.range n)[i]? with
    | none => rw [q] at e; cases e
    | some k =>
      rw [q] at e
      obtain ⟨l, e2⟩ := List.getElem?_eq_some_iff.mp q
      rw [List.getElem_range] at e2
      rw [List.length_range] at l
      subst e2
      cases e
      exact ⟨l, fun x H3 y => ⟨y.1, by rw [y.2]; exact .int _⟩⟩
  · show n ≤ i
    unfold rangeD at l
    rw [List.length_map, List.length_range] at l
    exact l
def forW (g : WG) (wb : WS) (E : ED) : List PyData → SD → Prop
  | [], sd => E.nx sd
  | d :: ds, sd => g d sd fun sd1 => wb (loopE E (forW g wb E ds)) sd1
theorem forW_mo {tg : Expr} {body : List Stmt} {g : WG} {wb : WS} {is : List Nat} (hg : EvG X tg is g) (hb : EvB X body wb) {E E' : ED} (h1 : ∀ sd, E.nx sd → E'.nx sd) (h2 : ∀ z, E.rt z → E'.rt z) : ∀ ds sd, forW g wb E ds sd → forW g wb E' ds sd
  | [], sd, q => h1 _ q
  | d :: ds, sd, q => hg.mo _ _ _ _ (fun s y => hb.mo (loopE E (forW g wb E ds)) (loopE E' (forW g wb E' ds)) s (forW_mo hg hb h1 h2 ds) h2 h1 (forW_mo hg hb h1 h2 ds) y) q
theorem for_run {tg : Expr} {body : List Stmt} {g : WG} {wb : WS} {is : List Nat} (hg : EvG X tg is g) (hb : EvB X body wb) {c : Cd} {sd : SD} {os : List (Option Addr)} {σ : L2.St} {H : Hp} {D : Ends} {E : ED} {J : It} {ds : List PyData} (t : List (V × PyData))
    (hk : c.K = X.K) (r : R c sd os σ H) (er : ER c E D) (ht : ∀ p ∈ t, Dx c.K (hid (OO c os) H) p.1 p.2) (hJ : ∀ O H, (∀ p ∈ t, Dx c.K (hid O H) p.1 p.2) → ItOk c.K J ds O H) (q : forW g wb E ds sd) :
    ∃ W : Nat → Nat → L2.St → Hp → Prop, (∃ m, W 0 m σ H) ∧ ∀ i m σ H, W i m σ H →
      (J.stop i H ∧ D.nx σ H) ∨ (J.go i H ∧ ∃ N : L2.St → Hp → Prop, (∀ σ' H', N σ' H' → ∃ m', m' < m ∧ W (i + 1) m' σ' H') ∧ ∀ x H', J.yld i H x H' → tGt X.K is g x σ H' fun σ2 H2 => tSt X.K wb { D with nx := N, ct := N, bk := D.nx } σ2 H2) := by
  refine ⟨fun i m σ H => ∃ sd os, R { c with T := t ++ c.T } sd os σ H ∧ forW g wb E (ds.drop i) sd ∧ m = ds.length - i ∧ i ≤ ds.length, ⟨_, sd, os, r.more t ht, q, rfl, Nat.zero_le _⟩, ?_⟩
  rintro i m σ H ⟨sd, os, r, q, rfl, hi⟩
  have ok := hJ (OO c os) H fun p m => r.tmp p (List.mem_append_left _ m)
  by_cases hlt : i < ds.length
  · have eg := List.getElem?_eq_getElem hlt
    obtain ⟨go, yl⟩ := ok.1 i _ eg
    rw [List.drop_eq_getElem_cons hlt] at q
    refine .inr ⟨go, fun σ' H' => ∃ sd os, R { c with T := t ++ c.T } sd os σ' H' ∧ forW g wb E (ds.drop (i + 1)) sd, fun σ' H' ⟨sd, os, r, q⟩ => ⟨ds.length - (i + 1), by omega, sd, os, r, q, rfl, hlt⟩, fun x H' y => ?_⟩
    obtain ⟨rfl, dx⟩ := yl x H' y
    refine ⟨{ c with T := t ++ c.T }, sd, os, ds[i], hk, r, by rw [← hk]; exact dx, hg.mo _ _ _ _ (fun s k σ' os' r' _ => ?_) q⟩
    refine ⟨{ c with T := t ++ c.T }, s, os', loopE E (forW g wb E (ds.drop (i + 1))), hk, r', ⟨fun sd os σ H r k => ⟨sd, os, r, k⟩, fun sd os σ H r k => er.nx _ _ _ _ r.less k, fun sd os σ H r k => ⟨sd, os, r, k⟩, er.rt⟩, k⟩
  · have e : i = ds.length := by omega
    subst e
    rw [List.drop_length] at q
    exact .inl ⟨ok.2 _ (Nat.le_refl _), er.nx _ _ _ _ r.less q⟩
end
end DL
set_option Elab.async false
set_option linter.all false
set_option maxRecDepth 100000
set_option maxHeartbeats 4000000
namespace DL
open PySem PySem.Spec PyProof.Rows L2
variable [Tb]
section
variable {X : Cx} {a b e tg iter elt : Expr} {es : List Expr} {body : List Stmt} {pos p : Pos} {x y : Str} {g : WG} {wb : WS} {is : List Nat}
theorem evs_for {we : WM} (h : EvM X iter we) (hg : EvG X tg is g) (hb : EvB X body wb) (hc : X.calm = true) (hp : PassesOwn (model X.prog X.w) X.A X.env X.xe := by exact PassesOwn.never)
    (hs : ∀ x, foldedSetIterable iter X.env x = pure x := by intro _; rfl) : EvS X (.For tg iter body [] pos) (fun E sd => we sd fun z sd' => dItems z.dat fun ds => forW g wb E ds sd') where
  ps := PS.weak (ps_for hp hc (pi_seq h.pe) hg.pg hb.ps hs) fun D σ H ⟨c, sd, os, E, hk, r, er, q⟩ => by
    refine ⟨c, sd, os, hk, r, h.mo _ _ _ (fun z sd' kz v H1 H' os' r1 x1 rv => ?_) q⟩
    have r2 := r1.grow x1
    have dx : Dx c.K (hid (OO c os') H') v z.dat := by rw [hk]; exact RvR.cl rv fun b m => r1.there m
    have ht : ∀ p ∈ [(v, z.dat)], Dx c.K (hid (OO c os') H') p.1 p.2 := fun p m => by
      rw [List.mem_singleton] at m
      subst m
      exact dx
    cases ez : z.dat with
    | list ds =>
      rw [ez] at dx kz
      cases dx with
      | lst h1 h2 =>
        refine .inl ⟨_, _, rfl, .inl (.inl (hid_some h1).2), for_run hg hb _ hk r2 er ht (fun O H ok => ?_) kz⟩
        have := ok _ List.mem_cons_self
        rw [ez] at this
        cases this with
        | lst g1 g2 => rw [hk] at g2 ⊢; exact it_l (hid_some g1).2 g2
    | tuple ds =>
      rw [ez] at dx kz
      cases dx with
      | tup h1 h2 =>
        refine .inr ⟨_, _, rfl, SqN.sqs hid_sub (by rw [← hk]; exact h1), for_run hg hb _ hk r2 er ht (fun O H ok => ?_) kz⟩
        have := ok _ List.mem_cons_self
        rw [ez] at this
        cases this with
        | tup g1 g2 => rw [hk] at g1 g2 ⊢; exact it_t (SqN.sqs hid_sub g1) g2
    | none => rw [ez] at kz; exact kz.elim
    | bool _ => rw [ez] at kz; exact kz.elim
    | int _ => rw [ez] at kz; exact kz.elim
    | str _ => rw [ez] at kz; exact kz.elim
    | dict _ => rw [ez] at kz; exact kz.elim
  mo := fun E E' sd h1 h2 _ _ q => h.mo _ _ _ (fun z s y => dItems_mo (fun ds y => forW_mo hg hb h1 h2 ds _ y) y) q
def dInt1 (d : PyData) (k : Int → Prop) : Prop := match d with
  | .int n => (-(2 ^ 62) ≤ n ∧ n < 2 ^ 62) ∧ k n
  | _ => False
theorem dInt1_mo {d : PyData} {k k' : Int → Prop} (h : ∀ n, k n → k' n) (q : dInt1 d k) : dInt1 d k' := by
  cases d with
  | int n => exact ⟨q.1, h _ q.2⟩
  | _ => exact q.elim
theorem dInt1_get {d : PyData} {k : Int → Prop} (q : dInt1 d k) : ∃ n, d = .int n ∧ (-(2 ^ 62) ≤ n ∧ n < 2 ^ 62) ∧ k n := by
  cases d with
  | int n => exact ⟨n, rfl, q⟩
  | _ => exact q.elim
/-- for .. in range(a) -/
theorem evs_forR {we : WD} (h : Ev .sh X a we) (hg : EvG X tg is g) (hb : EvB X body wb) (hc : X.calm = true) (hm : X.mg "range" = none) (hgl : Gl X "range" := by rfl) (hp : PassesOwn (model X.prog X.w) X.A X.env X.xe := by exact PassesOwn.never)
    (h1 : starEach [a] X.env = (false, eval a X.env) :: starEach [] X.env := by rfl) (h2 : starEach [a] X.env = [(false, eval a X.env)] := by rfl)
    (hs : ∀ x, foldedSetIterable (.Call (.Name "range" p) [a] [] pos) X.env x = pure x := by intro _; rfl) {pos2 : Pos} :
    EvS X (.For tg (.Call (.Name "range" p) [a] [] pos) body [] pos2) (fun E sd => we sd fun d => dInt1 d fun n => forW g wb E (rangeD 0 n.toNat) sd) where
  ps := PS.weak (ps_for hp hc (pi_range1 hgl hm (pa_cons h.pe pa_nil h1) h2) hg.pg hb.ps hs) fun D σ H ⟨c, sd, os, E, hk, r, er, q⟩ =>
    ⟨c, sd, os, hk, r, h.mo _ _ _ (fun d kz v H1 x1 dm => by
      obtain ⟨n, rfl, ⟨q1, q2⟩, q3⟩ := dInt1_get kz
      exact ⟨n, by rw [shInt dm], q1, q2, for_run hg hb [] hk (r.grow x1) er (fun p m => by cases m) (fun O H _ => by rw [hk]; exact it_r) q3⟩) q⟩
  mo := fun E E' sd k1 k2 _ _ q => h.mo _ _ _ (fun d y => dInt1_mo (fun n y => forW_mo hg hb k1 k2 _ _ y) y) q
def wipeD (sd : SD) : List Nat → SD
  | [] => sd
  | v :: vs => (wipeD sd vs).set v .un
def noOw : SV → Bool
  | .ow _ => false
  | .od _ => false
  | _ => true
theorem noOw_own {s : SV} (h : s.isOwn = true) : noOw s = false := by
  cases s <;> first | rfl | cases h
theorem R.wipe {c : Cd} {sd : SD} {os : List (Option Addr)} {σ : L2.St} {H : Hp} (r : R c sd os σ H) : ∀ vs : List Nat, (∀ i ∈ vs, noOw (getS sd i) = true) → R c (wipeD sd vs) os (wipe σ vs) H
  | [], _ => r
  | v :: vs, h => by
    have q := R.wipe r vs fun i m => h i (List.mem_cons_of_mem _ m)
    refine ⟨q.ext, q.src, q.sin, q.ocl, by simp [wipeD, L2.wipe, q.lend], by simp [L2.wipe, q.leno], fun j s w oa h1 h2 h3 => ?_, q.uniq, q.tmp, q.dis⟩
    unfold wipeD at h1
    unfold L2.wipe at h2
    rcases set_get h1 with ⟨ej, e1⟩ | ⟨nj, e1⟩
    · subst ej e1
      show oa = none
      have l3 : j < os.length := (List.getElem?_eq_some_iff.mp h3).1
      have l1 : j < sd.length := by rw [r.lend, ← r.leno]; exact l3
      have l2 : j < σ.length := by rw [← r.leno]; exact l3
      have := r.slot j sd[j] σ[j] oa (List.getElem?_eq_getElem l1) (List.getElem?_eq_getElem l2) h3
      have no := h j List.mem_cons_self
      have eg : getS sd j = sd[j] := by
        clear this no h1 h2 h3 q h l3 l2 r
        induction sd generalizing j with
        | nil => simp at l1
        | cons s r ih =>
          cases j with
          | zero => rfl
          | succ k => exact ih k (by simpa using l1)
      rw [eg] at no
      cases es : sd[j] with
      | un => rw [es] at this; exact this
      | so => rw [es] at this; exact this.1
      | fn _ => rw [es] at this; exact this.1
      | od _ => rw [es] at no; cases no
      | va d => rw [es] at this; exact this.1
      | ow ds => rw [es] at no; cases no
    · rcases set_get h2 with ⟨n, _⟩ | ⟨_, e2⟩
      · exact absurd n nj
      · exact q.slot j s w oa e1 e2 h3
theorem wipe_but {σ σ' : L2.St} {os os' : List (Option Addr)} {is vs : List Nat} (b : But is σ σ' os os') (h : ∀ i ∈ is, i ∈ vs) : wipe σ' vs = wipe σ vs := by
  have at_ : ∀ (τ : L2.St) (ws : List Nat) (j : Nat), (wipe τ ws)[j]? = if j ∈ ws then (if j < τ.length then some none else none) else τ[j]? := by
    intro τ ws j
    induction ws with
    | nil => simp [L2.wipe]
    | cons w ws ih =>
      unfold L2.wipe
      by_cases e : w = j
      · subst e
        rw [if_pos List.mem_cons_self, List.getElem?_set]
        simp [L2.wipe_length]
      · rw [List.getElem?_set_ne e, ih]
        have : j ∈ w :: ws ↔ j ∈ ws := by
          rw [List.mem_cons]
          exact ⟨fun z => z.resolve_left fun q => e q.symm, .inr⟩
        simp only [this]
  apply List.ext_getElem?
  intro j
  rw [at_, at_, b.1]
  by_cases m : j ∈ vs
  · rw [if_pos m, if_pos m]
  · rw [if_neg m, if_neg m]
    exact (b.2 j fun z => m (h j z)).1
def lcW (g : WG) (t : WB) (we : WR) (sd : SD) : List PyData → (List PyData → Prop) → Prop
  | [], Q => Q []
  | d :: ds, Q => g d sd fun sd2 => t sd2 fun b => if b = true then we sd2 (fun z => lcW g t we sd ds fun out => Q (z.dat :: out)) else lcW g t we sd ds Q
/-- the tests of a comprehension -/
structure EvI (X : Cx) (ifs : List Expr) (w : WB) : Prop where
  pt : PTs X ifs (tTe X.K w)
  mo : ∀ sd (Q Q' : Bool → Prop), (∀ r, Q r → Q' r) → w sd Q → w sd Q'
theorem PTs.weak {X : Cx} {e : List Expr} {t t' : TT} (h : PTs X e t) (k : ∀ σ H Q, t' σ H Q → t σ H Q) : PTs X e t' :=
  ⟨fun pins s σ H Q I q => h.run pins s σ H Q I (k σ H Q q)⟩
theorem evi_nil : EvI X [] (fun _ Q => Q true) :=
  ⟨PTs.weak pts_nil fun σ H Q ⟨c, sd, os, hk, r, q⟩ => q H Ext.refl, fun _ _ _ k q => k _ q⟩
theorem evi_one {w : WB} (h : EvT X e w) : EvI X [e] w := ⟨pts_one h.pt, h.mo⟩
end
end DL
set_option Elab.async false
set_option linter.all false
set_option maxRecDepth 100000
set_option maxHeartbeats 4000000
namespace DL
open PySem PySem.Spec PyProof.Rows L2
variable [Tb]
theorem getS_of : ∀ {sd : SD} {i : Nat} {s : SV}, sd[i]? = some s → getS sd i = s
  | [], _, _, h => by simp at h
  | t :: _, 0, s, h => by have e : t = s := by simpa using h
                          exact e
  | _ :: r, k + 1, s, h => getS_of (sd := r) (i := k) (by simpa using h)
theorem wipe_at (τ : L2.St) (j : Nat) : ∀ ws : List Nat, (wipe τ ws)[j]? = if j ∈ ws then (if j < τ.length then some none else none) else τ[j]?
  | [] => by simp [L2.wipe]
  | w :: ws => by
    unfold L2.wipe
    by_cases e : w = j
    · subst e
      rw [if_pos List.mem_cons_self, List.getElem?_set]
      simp [L2.wipe_length]
    · rw [List.getElem?_set_ne e, wipe_at τ j ws]
      have : j ∈ w :: ws ↔ j ∈ ws := by
        rw [List.mem_cons]
        exact ⟨fun z => z.resolve_left fun q => e q.symm, .inr⟩
      simp only [this]
theorem wipe_idem (σ : L2.St) (vs : List Nat) : wipe (wipe σ vs) vs = wipe σ vs := by
  apply List.ext_getElem?
  intro j
  rw [wipe_at, wipe_at, L2.wipe_length]
  by_cases m : j ∈ vs
  · rw [if_pos m, if_pos m]
  · rw [if_neg m, if_neg m]
section
variable {X : Cx} {a e tg iter elt : Expr} {ifs : List Expr} {pos p : Pos} {g : WG} {t : WB} {we : WR} {is vs : List Nat}
theorem lcW_mo (hg : ∀ d sd (Q Q' : SD → Prop), (∀ s, Q s → Q' s) → g d sd Q → g d sd Q') (ht : ∀ sd (Q Q' : Bool → Prop), (∀ r, Q r → Q' r) → t sd Q → t sd Q') (he : ∀ sd (Q Q' : RV → Prop), (∀ r, Q r → Q' r) → we sd Q → we sd Q') (sd : SD) :
    ∀ (ds : List PyData) (Q Q' : List PyData → Prop), (∀ r, Q r → Q' r) → lcW g t we sd ds Q → lcW g t we sd ds Q'
  | [], Q, Q', k, q => k _ q
  | d :: ds, Q, Q', k, q => hg _ _ _ _ (fun s y => ht _ _ _ (fun b y => by
      cases b with
      | true => exact he _ _ _ (fun z y => lcW_mo hg ht he sd ds _ _ (fun r y => k _ y) y) y
      | false => exact lcW_mo hg ht he sd ds _ _ k y) y) q
theorem lc_run {c : Cd} {sd : SD} {os : List (Option Addr)} {σ : L2.St} {H1 : Hp} {Q : VK} {J : It} {ds : List PyData} {D : Addr}
    (hg : ∀ d sd (Q Q' : SD → Prop), (∀ s, Q s → Q' s) → g d sd Q → g d sd Q') (ht : ∀ sd (Q Q' : Bool → Prop), (∀ r, Q r → Q' r) → t sd Q → t sd Q') (he : ∀ sd (Q Q' : RV → Prop), (∀ r, Q r → Q' r) → we sd Q → we sd Q')
    (hk : c.K = X.K) (r : R c sd os σ H1) (hD : H1 D = none) (hv : ∀ i ∈ vs, noOw (getS sd i) = true) (hsub : ∀ i ∈ is, i ∈ vs)
    (hJ : ∀ H2, Ext c.S H1 H2 → ItOk c.K J ds (OO { c with Oc := D :: c.Oc } os) H2) (hz : ds.length ≤ sizeLine)
    (q : lcW g t we (wipeD sd vs) ds fun out => ∀ v H', Ext c.S H1 H' → RvR X.K (OO c os) H1 H' v (.fr out) → Q v H') :
    ∃ W : Nat → Nat → Hp → Prop, (∃ m, W 0 m (upd H1 D (.lst []))) ∧ ∀ i m H, W i m H →
      (J.stop i H ∧ Q (.ref D) H) ∨ (J.go i H ∧ ∃ Nx : Hp → Prop, (∀ H', Nx H' → ∃ m', m' < m ∧ W (i + 1) m' H') ∧ ∀ x H', J.yld i H x H' →
        tGt X.K is g x (wipe σ vs) H' fun σ2 H2 => wipe σ2 vs = wipe σ vs ∧ tTe X.K t σ2 H2 fun b H3 =>
          if b = true then tR X.K we σ2 H3 fun y H4 => ∃ acc, H4 D = some (.lst acc) ∧ acc.length < sizeLine ∧ Nx (upd H4 D (.lst (acc ++ [y]))) else Nx H3) := by
  have nS : D ∉ c.S := fun z => r.srcNow.there D z hD
  have h0 : c.H0 D = none := by
    cases q : c.H0 D with
    | none => rfl
    | some o => rw [r.ext.st D o nS q] at hD; cases hD
  have hos : ∀ i ∈ vs, ∀ b, os[i]? ≠ some (some b) := fun i m b e => by
    obtain ⟨i', s0, o0, g1, g1', g2, g3, _⟩ := r.ownAt (List.mem_of_getElem? e)
    have ei := r.uniq _ _ _ g3 e
    subst ei
    have := hv i' m
    rw [getS_of g1, noOw_own g1'] at this
    cases this
  have rD := (r.hide (o := .lst []) (H' := upd H1 D (.lst [])) (Ext.of (same_new hD)) hD upd_same own_lst).wipe vs hv
  refine ⟨fun i m H => ∃ acc out, H D = some (.lst acc) ∧ DxAll c.K (hid (OO { c with Oc := D :: c.Oc } os) H) acc out ∧ R { c with Oc := D :: c.Oc } (wipeD sd vs) os (wipe σ vs) H ∧ Ext c.S H1 H ∧
      lcW g t we (wipeD sd vs) (ds.drop i) (fun rest => ∀ v H', Ext c.S H1 H' → RvR X.K (OO c os) H1 H' v (.fr (out ++ rest)) → Q v H') ∧ m = ds.length - i ∧ i ≤ ds.length ∧ acc.length ≤ i,
    ⟨_, [], [], upd_same, .nil, rD, Ext.of (same_new hD), q, rfl, Nat.zero_le _, Nat.le_refl _⟩, ?_⟩
  rintro i m H ⟨acc, out, hDa, dacc, rw', x1, q, rfl, hi, hl⟩
  have ok := hJ H x1
  by_cases hlt : i < ds.length
  · have eg := List.getElem?_eq_getElem hlt
    obtain ⟨go, yl⟩ := ok.1 i _ eg
    rw [List.drop_eq_getElem_cons hlt] at q
    refine .inr ⟨go, fun H' => ∃ acc out, H' D = some (.lst acc) ∧ DxAll c.K (hid (OO { c with Oc := D :: c.Oc } os) H') acc out ∧ R { c with Oc := D :: c.Oc } (wipeD sd vs) os (wipe σ vs) H' ∧ Ext c.S H1 H' ∧
      lcW g t we (wipeD sd vs) (ds.drop (i + 1)) (fun rest => ∀ v H', Ext c.S H1 H' → RvR X.K (OO c os) H1 H' v (.fr (out ++ rest)) → Q v H') ∧ acc.length ≤ i + 1,
      fun H' ⟨acc, out, e1, e2, e3, e4, e5, e6⟩ => ⟨ds.length - (i + 1), by omega, acc, out, e1, e2, e3, e4, e5, rfl, hlt, e6⟩, fun x H' y => ?_⟩
    obtain ⟨rfl, dx⟩ := yl x H' y
    refine ⟨{ c with Oc := D :: c.Oc }, wipeD sd vs, os, ds[i], hk, rw', by rw [← hk]; exact dx, hg _ _ _ _ (fun s k σ2 os2 r2 b2 => ⟨?_, ?_⟩) q⟩
    · rw [wipe_but b2 hsub, wipe_idem]
    · refine ⟨{ c with Oc := D :: c.Oc }, s, os2, hk, r2, ht _ _ _ (fun b kb H3 x3 => ?_) k⟩
      cases b with
      | false =>
        show ∃ acc out, _
        exact ⟨acc, out, x3.st D _ nS hDa, DxAll.grow (S := c.S) rw'.sO x3 dacc, rw'.grow x3, x1.trans x3, kb, by omega⟩
      | true =>
        refine ⟨{ c with Oc := D :: c.Oc }, s, os2, hk, r2.grow x3, he _ _ _ (fun z kz y H4 x4 rv => ?_) kb⟩
        have x34 := x3.trans x4
        have a4 := x34.st D _ nS hDa
        refine ⟨acc, a4, by omega, acc ++ [y], out ++ [z.dat], upd_same, ?_, (rw'.grow x34).updO List.mem_cons_self nS h0 own_lst, ext_upd (x1.trans x34) hD nS, ?_, by rw [List.length_append]; show acc.length + 1 ≤ i + 1; omega⟩
        · rw [hid_upd (mem_OO.mpr (.inl List.mem_cons_self))]
          refine (DxAll.grow (S := c.S) rw'.sO x34 dacc).app (.cons ?_ .nil)
          have dz := RvR.cl rv fun b m => (r2.grow x3).there m
          rw [hk]
          refine Dx.same (hid_same (fun _ _ _ h => h) fun b m => .inl ?_) _ _ dz
          rcases mem_OO.mp m with z | z
          · exact mem_OO.mpr (.inl z)
          · obtain ⟨j, hj, ej⟩ := List.getElem_of_mem z
            have e1 : os[j]? = some (some b) := by rw [List.getElem?_eq_getElem hj, ej]
            have nj : j ∉ is := fun mi => hos j (hsub j mi) b e1
            exact mem_OO.mpr (.inr (List.mem_of_getElem? ((b2.2 j nj).2.trans e1)))
        · refine lcW_mo hg ht he _ _ _ _ (fun rest k => ?_) kz
          rw [List.append_assoc]
          exact k
  · have e : i = ds.length := by omega
    subst e
    rw [List.drop_length] at q
    refine .inl ⟨ok.2 _ (Nat.le_refl _), ?_⟩
    have q : ∀ v H', Ext c.S H1 H' → RvR X.K (OO c os) H1 H' v (.fr (out ++ [])) → Q v H' := q
    rw [List.append_nil] at q
    exact q _ H x1 ⟨D, acc, rfl, hD, hDa, by rw [← hk]; exact dacc⟩
end
end DL
set_option Elab.async false
set_option linter.all false
set_option maxRecDepth 100000
set_option maxHeartbeats 4000000
namespace DL
open PySem PySem.Spec PyProof.Rows L2
variable [Tb]
section
variable {X : Cx} {a b e tg iter elt : Expr} {ifs : List Expr} {pos p : Pos} {g : WG} {t : WB} {we : WR} {is : List Nat} {scope : Scope} {own : List (Str × Nat)}
def okVs (sd : SD) (vs : List Nat) : Bool := vs.all fun i => noOw (getS sd i)
theorem okVs_all {sd : SD} {vs : List Nat} (h : okVs sd vs = true) : ∀ i ∈ vs, noOw (getS sd i) = true := List.all_eq_true.mp h
/-- a comprehension, by its parts -/
structure EvC (X : Cx) (elt tg iter : Expr) (ifs : List Expr) (scope : Scope) (w : WR) : Prop where
  ex : ∃ (own : List (Str × Nat)) (wi : TI) (g : TG) (tt : TT) (te : TE), PI X tg iter wi ∧ BlkOk X.N X.env.scope scope own ∧
    (∀ (s : Shared) (H : Hp) (C : Addr) (cl : List (Str × Addr)) (fp : List Addr), PG (X.blk s H scope (compEnvC scope cl C X.env) fp) tg g) ∧
    (∀ (s : Shared) (H : Hp) (C : Addr) (cl : List (Str × Addr)) (fp : List Addr), PTs (X.blk s H scope (compEnvC scope cl C X.env) fp) ifs tt) ∧
    (∀ (s : Shared) (H : Hp) (C : Addr) (cl : List (Str × Addr)) (fp : List Addr), PE (X.blk s H scope (compEnvC scope cl C X.env) fp) elt te) ∧
    (∀ x, foldedSetIterable iter X.env x = pure x) ∧ ∀ σ H Q, tR X.K w σ H Q → tLc wi g tt te (own.map (·.2)) σ H Q
  mo : ∀ sd (Q Q' : RV → Prop), (∀ r, Q r → Q' r) → w sd Q → w sd Q'
theorem EvC.rv {w : WR} (h : EvC X elt tg iter ifs scope w) (hc : X.calm = true) (hN : X.N.Nodup) : EvR X (.ListComp elt [⟨tg, iter, ifs, 0⟩] scope pos) w where
  pe := by
    obtain ⟨own, wi, g, tt, te, h1, h2, h3, h4, h5, h6, h7⟩ := h.ex
    exact PE.weak (pe_lc hc hN h1 h2 h3 h4 h5 h6) h7
  mo := h.mo
/-- name = a comprehension, in one row -/
theorem evs_setLC {w : WR} {py : Pos} {spos : Pos} {y : Str} (i : Nat) (h : EvC X elt tg iter ifs scope w) (hc : X.calm = true) (hN : X.N.Nodup) (hy : X.N[i]? = some y := by rfl) (hyl : X.env.scope.names.lookup y = some .local := by rfl)
    (hsw : swapsWith (.ListComp elt [⟨tg, iter, ifs, 0⟩] scope pos) (some (.Name y py)) spos.line X.env = pure true := by exact sw_true rfl rfl rfl (by decide +kernel)) :
    EvS X (.Assign [.Name y py] (.ListComp elt [⟨tg, iter, ifs, 0⟩] scope pos) spos) (fun E sd => w sd fun z => E.nx (sd.set i z.sv)) where
  ps := by
    obtain ⟨own, wi, g, tt, te, h1, h2, h3, h4, h5, h6, h7⟩ := h.ex
    refine PS.weak (ps_setLc hc hN hy hyl hsw h1 h2 h3 h4 h5 h6) fun D σ H ⟨c, sd, os, E, hk, r, er, q⟩ => ?_
    refine h7 σ H _ ⟨c, sd, os, hk, r, h.mo _ _ _ (fun z kz v H' x rv => ?_) q⟩
    obtain ⟨oa, r'⟩ := R.set (i := i) r x (by rw [hk]; exact rv)
    exact er.nx _ _ _ _ r' kz
  mo := fun E E' sd h1 _ _ _ q => h.mo _ _ _ (fun z y => h1 _ y) q
/-- [elt for tg in iter if ..] over a list or a tuple -/
theorem evc_lc {wi : WD} (h : Ev .sh X iter wi) (ok : BlkOk X.N X.env.scope scope own)
    (hg : ∀ (s : Shared) (H : Hp) (C : Addr) (cl : List (Str × Addr)) (fp : List Addr), EvG (X.blk s H scope (compEnvC scope cl C X.env) fp) tg is g)
    (ht : ∀ (s : Shared) (H : Hp) (C : Addr) (cl : List (Str × Addr)) (fp : List Addr), EvI (X.blk s H scope (compEnvC scope cl C X.env) fp) ifs t)
    (he : ∀ (s : Shared) (H : Hp) (C : Addr) (cl : List (Str × Addr)) (fp : List Addr), EvR (X.blk s H scope (compEnvC scope cl C X.env) fp) elt we)
    (hsub : ∀ i ∈ is, i ∈ own.map (·.2) := by decide) (hs : ∀ x, foldedSetIterable iter X.env x = pure x := by intro _; rfl) :
    EvC X elt tg iter ifs scope (fun sd Q => wi sd fun d => dItems d fun ds =>
      (okVs sd (own.map (·.2)) = true ∧ ds.length ≤ sizeLine) ∧ lcW g t we (wipeD sd (own.map (·.2))) ds fun out => Q (.fr out)) where
  ex := ⟨own, _, _, _, _, pi_seq h.pe, ok, fun s H C cl fp => (hg s H C cl fp).pg, fun s H C cl fp => (ht s H C cl fp).pt, fun s H C cl fp => (he s H C cl fp).pe, hs,
    fun σ H Q ⟨c, sd, os, hk, r, q⟩ => by
    have hg' := (hg X.s_0 X.H_0 0 [] []).mo
    have ht' := (ht X.s_0 X.H_0 0 [] []).mo
    have he' := (he X.s_0 X.H_0 0 [] []).mo
    refine ⟨c, sd, os, hk, r, h.mo _ _ _ (fun d kz v H1 x1 dm => ?_) q⟩
    have rr := r.grow x1
    cases d with
    | list ds =>
      obtain ⟨⟨k1, k2⟩, k3⟩ := kz
      obtain ⟨a, xs, rfl, d1, d2⟩ := dm
      refine .inl ⟨a, xs, rfl, .inl (.inl (hid_some d1).2), fun D hD => lc_run hg' ht' he' hk rr hD (okVs_all k1) hsub (fun H2 x2 => ?_) k2
        (lcW_mo hg' ht' he' _ _ _ _ (fun out kq v' H' x' rv => kq v' H' (x1.trans x') (RvR.from r.sO (fun b m => rr.there m) x1 rv)) k3)⟩
      rw [hk]
      refine it_l (x2.st a _ (hid_some d1).1 (hid_some d1).2) (DxAll.same (hid_same (fun b o n e => x2.st b o (fun z => n (r.sO b z)) e) fun b m => ?_) _ _ d2)
      rcases mem_OO.mp m with z | z
      · rcases List.mem_cons.mp z with rfl | z
        · exact .inr hD
        · exact .inl (mem_OO.mpr (.inl z))
      · exact .inl (mem_OO.mpr (.inr z))
    | tuple ds =>
      obtain ⟨⟨k1, k2⟩, k3⟩ := kz
      obtain ⟨a, xs, rfl, d1, d2⟩ := shTup dm
      refine .inr ⟨a, xs, rfl, SqT.same hid_sub d1, fun D hD => lc_run hg' ht' he' hk rr hD (okVs_all k1) hsub (fun H2 x2 => ?_) k2
        (lcW_mo hg' ht' he' _ _ _ _ (fun out kq v' H' x' rv => kq v' H' (x1.trans x') (RvR.from r.sO (fun b m => rr.there m) x1 rv)) k3)⟩
      rw [hk]
      have sub : Same (hid (OO c os) H1) (hid (OO { c with Oc := D :: c.Oc } os) H2) := hid_same (fun b o n e => x2.st b o (fun z => n (r.sO b z)) e) fun b m => by
        rcases mem_OO.mp m with z | z
        · rcases List.mem_cons.mp z with rfl | z
          · exact .inr hD
          · exact .inl (mem_OO.mpr (.inl z))
        · exact .inl (mem_OO.mpr (.inr z))
      exact it_t (SqT.same hid_sub (SqT.same sub d1)) (DxAll.same sub _ _ d2)
    | _ => exact kz.elim⟩
  mo := fun sd Q Q' k q => h.mo _ _ _ (fun d z => dItems_mo (fun ds z => ⟨z.1, lcW_mo (hg X.s_0 X.H_0 0 [] []).mo (ht X.s_0 X.H_0 0 [] []).mo (he X.s_0 X.H_0 0 [] []).mo _ _ _ _ (fun r y => k _ y) z.2⟩) z) q
/-- .. over range(a) -/
theorem evc_lcR {wi : WD} (h : Ev .sh X a wi) (ok : BlkOk X.N X.env.scope scope own) (hm : X.mg "range" = none)
    (hg : ∀ (s : Shared) (H : Hp) (C : Addr) (cl : List (Str × Addr)) (fp : List Addr), EvG (X.blk s H scope (compEnvC scope cl C X.env) fp) tg is g)
    (ht : ∀ (s : Shared) (H : Hp) (C : Addr) (cl : List (Str × Addr)) (fp : List Addr), EvI (X.blk s H scope (compEnvC scope cl C X.env) fp) ifs t)
    (he : ∀ (s : Shared) (H : Hp) (C : Addr) (cl : List (Str × Addr)) (fp : List Addr), EvR (X.blk s H scope (compEnvC scope cl C X.env) fp) elt we)
    (hgl : Gl X "range" := by rfl) (hsub : ∀ i ∈ is, i ∈ own.map (·.2) := by decide) {pos2 : Pos}
    (h1 : starEach [a] X.env = (false, eval a X.env) :: starEach [] X.env := by rfl) (h2 : starEach [a] X.env = [(false, eval a X.env)] := by rfl)
    (hs : ∀ x, foldedSetIterable (.Call (.Name "range" p) [a] [] pos2) X.env x = pure x := by intro _; rfl) :
    EvC X elt tg (.Call (.Name "range" p) [a] [] pos2) ifs scope (fun sd Q => wi sd fun d => dInt1 d fun n =>
      (okVs sd (own.map (·.2)) = true ∧ n ≤ 1000000) ∧ lcW g t we (wipeD sd (own.map (·.2))) (rangeD 0 n.toNat) fun out => Q (.fr out)) where
  ex := ⟨own, _, _, _, _, pi_range1 hgl hm (pa_cons h.pe pa_nil h1) h2, ok, fun s H C cl fp => (hg s H C cl fp).pg, fun s H C cl fp => (ht s H C cl fp).pt, fun s H C cl fp => (he s H C cl fp).pe, hs,
    fun σ H Q ⟨c, sd, os, hk, r, q⟩ => by
    have hg' := (hg X.s_0 X.H_0 0 [] []).mo
    have ht' := (ht X.s_0 X.H_0 0 [] []).mo
    have he' := (he X.s_0 X.H_0 0 [] []).mo
    refine ⟨c, sd, os, hk, r, h.mo _ _ _ (fun d kz v H1 x1 dm => ?_) q⟩
    have rr := r.grow x1
    obtain ⟨n, rfl, ⟨q1, q2⟩, ⟨k1, k2⟩, k3⟩ := dInt1_get kz
    refine ⟨n, by rw [shInt dm], q1, q2, fun D hD => lc_run hg' ht' he' hk rr hD (okVs_all k1) hsub (fun H2 x2 => it_r) ?_
        (lcW_mo hg' ht' he' _ _ _ _ (fun out kq v' H' x' rv => kq v' H' (x1.trans x') (RvR.from r.sO (fun b m => rr.there m) x1 rv)) k3)⟩
    unfold rangeD
    rw [List.length_map, List.length_range, sizeLine_eq]
    omega⟩
  mo := fun sd Q Q' k q => h.mo _ _ _ (fun d z => dInt1_mo (fun ds z => ⟨z.1, lcW_mo (hg X.s_0 X.H_0 0 [] []).mo (ht X.s_0 X.H_0 0 [] []).mo (he X.s_0 X.H_0 0 [] []).mo _ _ _ _ (fun r y => k _ y) z.2⟩) z) q
end
@[reducible] def AV.sv : AV → SV
  | .va d => .va d
  | .so => .so
  | .fn f => .fn f
def startD (n : Nat) (as : List AV) : SD := as.map AV.sv ++ List.replicate (n - as.length) .un
theorem start_slot {c : Cd} {O : List Addr} {H : Hp} {n : Nat} : ∀ {vs : List V} {as : List AV}, DAs .cl c.K c.S O H vs as → ∀ (i : Nat) (s : SV) (v : Option V),
    (as.map AV.sv ++ List.replicate n SV.un)[i]? = some s → (vs.map some ++ List.replicate n none)[i]? = some v → SlotR c O H s v none
  | _, _, .nil, i, s, v, h1, h2 => by
    simp only [List.map_nil, List.nil_append] at h1 h2
    have : s = .un := List.eq_of_mem_replicate (List.mem_of_getElem? h1)
    subst this
    rfl
  | _, _, .va h t, 0, s, v, h1, h2 => by
    cases h1
    cases h2
    exact ⟨rfl, _, rfl, h⟩
  | _, _, .so (x := x) (y := y) h t, 0, s, v, h1, h2 => by
    cases h1
    cases h2
    exact ⟨rfl, x, y, h, rfl⟩
  | _, _, .va h t, i + 1, s, v, h1, h2 => start_slot t i s v (by simpa using h1) (by simpa using h2)
  | _, _, .fn t, 0, s, v, h1, h2 => by
    cases h1
    cases h2
    exact ⟨rfl, rfl⟩
  | _, _, .fn t, i + 1, s, v, h1, h2 => start_slot t i s v (by simpa using h1) (by simpa using h2)
  | _, _, .so h t, i + 1, s, v, h1, h2 => start_slot t i s v (by simpa using h1) (by simpa using h2)
section
variable {P : Program} {w : World} {K : PySem.W.Frag} {mg : Str → Option Value} {base : Heap}
def endE (Q : RV → Prop) : ED := { nx := fun _ => Q (.va .none), rt := Q, bk := fun _ => False, ct := fun _ => False }
theorem fn_dataC {k : Nat} {x qual : Str} {st : Stmt} {f : Addr} {fd : FuncData} {N ps : List Str} {fs : FSp} {wb : WS}
    (F : Fun K x qual st f fd) (S : FnScope N ps (defScope st))
    (body : ∀ (cdv : Value), fd.code = cdv → ∀ (A : Around) (outer : List Env) (s : Shared) (H : Hp) (E : XK), RmG k (A.deeper (envOfC qual (defScope st) s.heap.objs.size f cdv)) →
      EvB (cxOf CX0 P w K mg base N qual (defScope st) f cdv A outer s H E).nox (defBody st) wb)
    (run : ∀ as Q, as.length = ps.length → fs as Q → wb (endE Q) (startD N.length as)) : FnG P w K mg base CX0 (k + 1) f fd ps (PSp K ps.length fs) := by
  refine fn_bodyC F S (fun vs H Q E ⟨S', Oc, as, h1, h2, h3, h4, h5, h6⟩ => h4.len.trans h5) fun cdv hcd A outer s H vs Q E hr hsp => ?_
  have B := body cdv hcd A outer s H E hr
  refine ⟨_, B.ps.nox, ?_⟩
  obtain ⟨S', Oc, as, h1, h2, h3, h4, h5, h6⟩ := hsp
  have hl := h4.len
  refine ⟨⟨K, H, Oc, S', []⟩, startD N.length as, List.replicate (startD N.length as).length none, endE (fun r => ∀ v H', Ext S' H H' → RvR K Oc H H' v r → Q v H'), rfl, ?_, ?_, run as _ h5 h6⟩
  · have e2 : L2.start N vs = vs.map some ++ List.replicate (N.length - as.length) none := by
      unfold L2.start
      rw [hl]
    have hOO : OO ⟨K, H, Oc, S', []⟩ (List.replicate (startD N.length as).length none) = Oc := by
      unfold OO
      have : (List.replicate (startD N.length as).length (none : Option Addr)).filterMap id = [] := by
        apply List.filterMap_eq_nil_iff.mpr
        intro z m
        rw [List.eq_of_mem_replicate m]
        rfl
      rw [this, List.append_nil]
    have no : ∀ (a : Addr), some a ∉ List.replicate (startD N.length as).length (none : Option Addr) := fun a m => by
      have := List.eq_of_mem_replicate m
      cases this
    refine ⟨Ext.refl, h1, h2, h3, ?_, ?_, fun i s v oa g1 g2 g3 => ?_, fun i j a g1 _ => absurd (List.mem_of_getElem? g1) (no a), fun p m => (by cases m), fun a m => absurd m (no a)⟩
    · rw [e2]
      unfold startD
      simp [hl]
    · rw [e2]
      unfold startD
      simp [hl]
    · rw [hOO]
      have e3 : oa = none := List.eq_of_mem_replicate (List.mem_of_getElem? g3)
      subst e3
      rw [e2] at g2
      exact start_slot (c := ⟨K, H, Oc, S', []⟩) h4 i s v g1 g2
  · exact ⟨fun sd os σ H' r q => q .non H' r.ext .non, fun _ _ _ _ _ q => q.elim, fun _ _ _ _ _ q => q.elim, fun z v H' x rv q => q v H' x rv⟩
theorem fn_data {k : Nat} {x qual : Str} {st : Stmt} {f : Addr} {fd : FuncData} {N ps : List Str} {fs : FSp} {wb : WS}
    (F : Fun K x qual st f fd) (S : FnScope N ps (defScope st))
    (body : ∀ (cdv : Value) (A : Around) (outer : List Env) (s : Shared) (H : Hp) (E : XK), RmG k (A.deeper (envOfC qual (defScope st) s.heap.objs.size f cdv)) →
      EvB (cxOf CX0 P w K mg base N qual (defScope st) f cdv A outer s H E).nox (defBody st) wb)
    (run : ∀ as Q, as.length = ps.length → fs as Q → wb (endE Q) (startD N.length as)) : FnG P w K mg base CX0 (k + 1) f fd ps (PSp K ps.length fs) :=
  fn_dataC F S (fun cdv _ => body cdv) run
end
end DL
set_option Elab.async false
set_option linter.all false
set_option maxRecDepth 100000
set_option maxHeartbeats 4000000
namespace DL
open PySem PySem.Spec PyProof.Rows L2
variable [Tb]
def tyN : PyData → String
  | .none => "NoneType"
  | .bool _ => "bool"
  | .int _ => "int"
  | .str _ => "str"
  | .list _ => "list"
  | .tuple _ => "tuple"
  | .dict _ => "dict"
theorem Dx.ty {K : PySem.W.Frag} {H : Hp} {v : V} {d : PyData} (h : Dx K H v d) : TyX K H v (.type (tyN d)) := by
  cases h with
  | non => exact .base .non
  | bl b => exact .base (.bl b)
  | int i => exact .base (.int i)
  | str x => exact .base (.str x)
  | lst h1 h2 => exact .base (.lst h1)
  | tup h1 h2 =>
    rcases h1 with ⟨o, h, _⟩ | ⟨o, its, n, h, hc, _⟩
    · exact .fTuple h
    · exact .kTuple h hc
  | dct h1 h2 h3 => obtain ⟨kvs, rfl, _⟩ := h2; exact .base (.dK h1)
section
variable {X : Cx} {e : Expr} {pos p p1 p2 : Pos} {x : Str}
def wIsi (T : String) (w : WD) : WR := fun sd Q => w sd fun d => match kitB (tyN d) T with
  | some b => Q (.va (.bool b))
  | none => False
/-- isinstance(e, T), T a built-in class -/
theorem evr_isi {w : WD} (T : String) (tx : Str) (h : Ev .bo X e w) (hm : X.mg "isinstance" = none) (hmt : X.mg tx = none) (hv : bootBuiltins "isinstance" = some (.builtin "isinstance")) (hvt : bootBuiltins tx = some (.type T))
    (hg : Gl X "isinstance" := by rfl) (hgt : Gl X tx := by rfl) (hn : tx ≠ "__name__" := by decide) (hdb : (tx == ("__debug__" : Str)) = false := by decide)
    (h1 : starEach [e, .Name tx p2] X.env = (false, eval e X.env) :: starEach [.Name tx p2] X.env := by rfl) (h2 : starEach [.Name tx p2] X.env = (false, eval (.Name tx p2) X.env) :: starEach [] X.env := by rfl)
    (hpl : (backTo pos (starEach [.Name tx p2] X.env)).any (·.1) = false := by rfl) :
    EvR X (.Call (.Name "isinstance" p) [e, .Name tx p2] [] pos) (wIsi T w) where
  pe := PE.weak (pe_callB call_isi hg hm hv (pa_cons h.pe (pa_cons (pe_bltn hgt hmt hvt (v := V.ty T) rfl hn hdb) pa_nil h2) h1) (he := h1) (hpl := hpl)) fun σ H Q ⟨c, sd, os, hk, r, q⟩ =>
    ⟨c, sd, os, hk, r, h.mo _ _ _ (fun d k v H1 x1 dm => by
      cases e : kitB (tyN d) T with
      | none => rw [e] at k; exact k.elim
      | some b =>
        rw [e] at k
        exact ⟨v, V.ty T, .type (tyN d), .type T, b, rfl, .ty T, Dx.ty (Dx.same hid_sub _ _ dm), kit_ty e, k _ H1 x1 (.bl b)⟩) q⟩
  mo := fun sd Q Q' k q => h.mo _ _ _ (fun d z => by
    cases e : kitB (tyN d) T with
    | none => rw [e] at z; exact z.elim
    | some b => rw [e] at z; exact k _ z) q
def wBack (w : WD) : WR := fun sd Q => w sd fun d => match d with
  | .list ds => Q (.fr ds.reverse)
  | .tuple ds => Q (.va (.tuple ds.reverse))
  | _ => False
theorem evr_back {w : WD} {k : Nat} {p3 : Pos} (h : Ev .sh X e w) : EvR X (.Subscript e (.Slice none none (some (.UnaryOp .USub (.Constant (.int 1) k p1) p2)) p3) pos) (wBack w) where
  pe := PE.weak (pe_back h.pe) fun σ H Q ⟨c, sd, os, hk, r, q⟩ => ⟨c, sd, os, hk, r, h.mo _ _ _ (fun d k v H1 x1 dm => by
    have ht : ∀ a ∈ OO c os, H1 a ≠ none := fun a m => (r.grow x1).there m
    cases d with
    | list ds =>
      obtain ⟨a, us, rfl, h1, h2⟩ := dm
      exact .inr ⟨a, us, rfl, .inl (.inl (hid_some h1).2), fun p hp => k _ _ (x1.trans (Ext.of (same_new hp))) (RvR.from r.sO ht x1 (rv_lst hp h2.rev))⟩
    | tuple ds =>
      obtain ⟨a, us, rfl, h1, h2⟩ := shTup dm
      exact .inl ⟨a, us, rfl, SqT.same hid_sub h1, fun p ob hp hd => k _ _ (x1.trans (Ext.of (same_new hp))) (rv_tup hp hd ht h2.rev)⟩
    | _ => exact k.elim) q⟩
  mo := fun sd Q Q' k q => h.mo _ _ _ (fun d z => by
    cases d with
    | list ds => exact k _ z
    | tuple ds => exact k _ z
    | _ => exact z.elim) q
def frzD (i : Nat) (sd : SD) : SD := match getS sd i with
  | .ow ds => sd.set i (.va (.list ds))
  | .od es => sd.set i (.va (.dict es))
  | _ => sd
theorem evb_frz {sts : List Stmt} {w : WS} (i : Nat) (h : EvB X sts w) : EvB X sts (fun E sd => w E (frzD i sd)) where
  ps := PSs.weak h.ps fun D σ H ⟨c, sd, os, E, hk, r, er, q⟩ => by
    have q : w E (frzD i sd) := q
    unfold frzD at q
    cases es : getS sd i with
    | ow ds =>
      rw [es] at q
      obtain ⟨v, _, r', _⟩ := r.frz es
      exact ⟨c, _, _, E, hk, r', er, q⟩
    | un => rw [es] at q; exact ⟨c, sd, os, E, hk, r, er, q⟩
    | va d => rw [es] at q; exact ⟨c, sd, os, E, hk, r, er, q⟩
    | so => rw [es] at q; exact ⟨c, sd, os, E, hk, r, er, q⟩
    | fn _ => rw [es] at q; exact ⟨c, sd, os, E, hk, r, er, q⟩
    | od ds =>
      rw [es] at q
      obtain ⟨v, _, r', _⟩ := r.frzO es
      exact ⟨c, _, _, E, hk, r', er, q⟩
  mo := fun E E' sd h1 h2 h3 h4 q => h.mo _ _ _ h1 h2 h3 h4 q
end
end DL
set_option Elab.async false
set_option linter.all false
set_option maxRecDepth 100000
set_option maxHeartbeats 4000000
namespace DL
open PySem PySem.Spec PyProof.Rows L2
variable [Tb]
def kvs4 (c : Addr) (l m t : Int) : List (Key × V) := [(.inr "cells", .ref c), (.inr "left", .int l), (.inr "mixed", .int m), (.inr "turn", .int t)]
abbrev kyC : Key := .inr ("cells" : Str)
abbrev kyL : Key := .inr ("left" : Str)
abbrev kyM : Key := .inr ("mixed" : Str)
abbrev kyT : Key := .inr ("turn" : Str)
theorem nCL : ¬ kyC = kyL := by decide +kernel
theorem nCM : ¬ kyC = kyM := by decide +kernel
theorem nCT : ¬ kyC = kyT := by decide +kernel
theorem nLM : ¬ kyL = kyM := by decide +kernel
theorem nLT : ¬ kyL = kyT := by decide +kernel
theorem nMT : ¬ kyM = kyT := by decide +kernel
theorem nML : ¬ kyM = kyL := by decide +kernel
theorem nTL : ¬ kyT = kyL := by decide +kernel
section
variable {c : Addr} {l m t x : Int}
theorem k4_cells : valV (kvs4 c l m t) kyC = some (.ref c) := valV_pos rfl
theorem k4_left : valV (kvs4 c l m t) kyL = some (.int l) := (valV_neg nCL).trans (valV_pos rfl)
theorem k4_mixed : valV (kvs4 c l m t) kyM = some (.int m) := (valV_neg nCM).trans ((valV_neg nLM).trans (valV_pos rfl))
theorem k4_turn : valV (kvs4 c l m t) kyT = some (.int t) := (valV_neg nCT).trans ((valV_neg nLT).trans ((valV_neg nMT).trans (valV_pos rfl)))
theorem k4_putL : putK (kvs4 c l m t) kyL (.int x) = kvs4 c x m t := by
  have e : (kvs4 c l m t).any (fun kv => decide (kv.1 = kyL)) = true := by
    rw [valV_any, k4_left]
    rfl
  unfold putK
  rw [if_pos e]
  show [(if kyC = kyL then (kyC, V.int x) else (kyC, V.ref c)), (if kyL = kyL then (kyL, V.int x) else (kyL, V.int l)), (if kyM = kyL then (kyM, V.int x) else (kyM, V.int m)), (if kyT = kyL then (kyT, V.int x) else (kyT, V.int t))] = _
  rw [if_neg nCL, if_pos rfl, if_neg nML, if_neg nTL]
  rfl
theorem k4_putT : putK (kvs4 c l m t) kyT (.int x) = kvs4 c l m x := by
  have e : (kvs4 c l m t).any (fun kv => decide (kv.1 = kyT)) = true := by
    rw [valV_any, k4_turn]
    rfl
  unfold putK
  rw [if_pos e]
  show [(if kyC = kyT then (kyC, V.int x) else (kyC, V.ref c)), (if kyL = kyT then (kyL, V.int x) else (kyL, V.int l)), (if kyM = kyT then (kyM, V.int x) else (kyM, V.int m)), (if kyT = kyT then (kyT, V.int x) else (kyT, V.int t))] = _
  rw [if_neg nCT, if_neg nLT, if_neg nMT, if_pos rfl]
  rfl
end
section
variable {H : Hp} {a c : Addr} {l m t x : Int}
theorem g4_cells (e : H a = some (.dK (kvs4 c l m t))) : DGet H a (.str "cells") (some (.ref c)) := by
  have g := DGet.k (k := kyC) e
  rw [k4_cells] at g
  exact g
theorem g4_left (e : H a = some (.dK (kvs4 c l m t))) : DGet H a (.str "left") (some (.int l)) := by
  have g := DGet.k (k := kyL) e
  rw [k4_left] at g
  exact g
theorem g4_mixed (e : H a = some (.dK (kvs4 c l m t))) : DGet H a (.str "mixed") (some (.int m)) := by
  have g := DGet.k (k := kyM) e
  rw [k4_mixed] at g
  exact g
theorem g4_turn (e : H a = some (.dK (kvs4 c l m t))) : DGet H a (.str "turn") (some (.int t)) := by
  have g := DGet.k (k := kyT) e
  rw [k4_turn] at g
  exact g
theorem p4_left (e : H a = some (.dK (kvs4 c l m t))) : DPut H a (.str "left") (.int x) (upd H a (.dK (kvs4 c x m t))) := by
  have g := DPut.k (k := kyL) (v := .int x) e (by show 4 < sizeLine; decide)
  rw [k4_putL] at g
  exact g
theorem p4_turn (e : H a = some (.dK (kvs4 c l m t))) : DPut H a (.str "turn") (.int x) (upd H a (.dK (kvs4 c l m x))) := by
  have g := DPut.k (k := kyT) (v := .int x) e (by show 4 < sizeLine; decide)
  rw [k4_putT] at g
  exact g
theorem merge4 : mergeK [] [(kyC, V.ref c), (kyL, V.int l), (kyM, V.int m), (kyT, V.int t)] = kvs4 c l m t := by
  unfold mergeK kvs4
  simp only [List.foldl_cons, List.foldl_nil]
  rw [putK_new (kvs := []) (k := kyC) _ valV_nil, List.nil_append]
  rw [putK_new (k := kyL) _ ((valV_neg nCL).trans valV_nil), List.cons_append, List.nil_append]
  rw [putK_new (k := kyM) _ ((valV_neg nCM).trans ((valV_neg nLM).trans valV_nil)), List.cons_append, List.cons_append, List.nil_append]
  rw [putK_new (k := kyT) _ ((valV_neg nCT).trans ((valV_neg nLT).trans ((valV_neg nMT).trans valV_nil)))]
  rfl
end
/-- where a def of one's own stands -/
structure Cal (K : PySem.W.Frag) (mg : Str → Option Value) (x : Str) (f : Addr) (fd : FuncData) (ps : List Str) : Prop where
  hm : mg x = some (.ref f)
  hk : PySem.W.keepIn K (.ref f) = true
  hb : Binds K fd ps []
/-- a number below the one asked for -/
def fsPick : FSp := fun as Q => match as with
  | [.so, .va (.int m)] => m < 1152921504606846976 ∧ ∀ r : Int, 0 ≤ r → (r < m ∨ r = 0) → Q (.va (.int r))
  | _ => False
theorem moPick : MoF fsPick := by
  intro as Q Q' k q
  unfold fsPick at q ⊢
  split at q
  · exact ⟨q.1, fun r h0 h1 => k _ (q.2 r h0 h1)⟩
  · exact q.elim
def spOpen (K : PySem.W.Frag) : Sp := fun vs H Q _ => ∃ (a : Addr) (ns : List Int), vs = [.ref a] ∧ SqL K H a (ns.map V.int) ∧ ns.length ≤ 63 ∧
  ∀ H' d c, Same H H' → H d = none → H c = none → SrcAt H' d c → Q (.ref d) H'
/-- nothing is promised, nothing may be asked -/
def fsNo : FSp := fun _ _ => False
theorem FnG.no {P : Program} {w : World} {K : PySem.W.Frag} {mg : Str → Option Value} {base : Heap} {f : Addr} {fd : FuncData} {ps : List Str} : FnG P w K mg base CX0 0 f fd ps (PSp K ps.length fsNo) :=
  ⟨fun vs H Q E ⟨_, _, _, _, _, _, _, _, q⟩ => q.elim, fun A o s H a us vs Q E _ _ _ _ ⟨_, _, _, _, _, _, _, _, q⟩ => q.elim⟩
end DL
set_option Elab.async false
set_option linter.all false
set_option maxRecDepth 100000
set_option maxHeartbeats 4000000
namespace DL
open PySem PySem.Spec PyProof.Rows L2
variable [Tb]
theorem eqv_str (x y : Str) : PyData.eqv (.str x) (.str y) = decide (x = y) := by simp only [PyData.eqv]; first | rfl | (by_cases h : x = y <;> simp [h])
theorem sh_str {i : Str} (h : PyData.strOk i = true) : SeqAt.shaped (.str i) = true := by simp [SeqAt.shaped, PyData.canLay0, PyData.depth, h]
theorem sl2 : (2 : Nat) ≤ sizeLine := by decide
theorem dat_va (d : PyData) : (RV.va d).dat = d := rfl
theorem dat_fr (ds : List PyData) : (RV.fr ds).dat = .list ds := rfl
theorem sv_va (d : PyData) : (RV.va d).sv = .va d := rfl
theorem sv_fr (ds : List PyData) : (RV.fr ds).sv = .ow ds := rfl
theorem onOw_ow {i : Nat} {sd : SD} {k : List PyData → Prop} {ds : List PyData} (e : getS sd i = .ow ds) : onOw i sd k = k ds := by unfold onOw; rw [e]
theorem nil_or_snoc {α : Type} (xs : List α) : xs = [] ∨ ∃ init x, xs = init ++ [x] := by
  rcases List.eq_nil_or_concat xs with h | ⟨i, x, h⟩
  · exact .inl h
  · exact .inr ⟨i, x, by rw [h, List.concat_eq_append]⟩
inductive Rw where
  | let (c : Fin 26)
  | join (rs : List Rw)
  | right (r : Rw)
  | left (r : Rw)
  | mix (rs : List Rw)
abbrev sJ : Str := "join"
abbrev sR : Str := "right"
abbrev sL : Str := "left"
abbrev sM : Str := "mix"
mutual
def Rw.toD : Rw → PyData
  | .let c => .str ⟨#[97 + c.val]⟩
  | .join rs => .tuple [.str sJ, .tuple (Rw.toDs rs)]
  | .right r => .tuple [.str sR, r.toD]
  | .left r => .tuple [.str sL, r.toD]
  | .mix rs => .tuple [.str sM, .tuple (Rw.toDs rs)]
def Rw.toDs : List Rw → List PyData
  | [] => []
  | r :: rs => r.toD :: Rw.toDs rs
end
mutual
/-- letters and tuples that begin with a word -/
def Rw.nodes : Rw → Nat
  | .let _ => 1
  | .join rs => 1 + Rw.nodesL rs
  | .right r => 1 + r.nodes
  | .left r => 1 + r.nodes
  | .mix rs => 1 + Rw.nodesL rs
def Rw.nodesL : List Rw → Nat
  | [] => 0
  | r :: rs => r.nodes + Rw.nodesL rs
end
theorem Rw.toDs_eq : ∀ rs : List Rw, Rw.toDs rs = rs.map Rw.toD
  | [] => by simp only [Rw.toDs, List.map_nil]
  | r :: rs => by simp only [Rw.toDs, List.map_cons, Rw.toDs_eq rs]
theorem Rw.nodes_pos (r : Rw) : 0 < r.nodes := by cases r <;> simp only [Rw.nodes] <;> omega
theorem Rw.len_le : ∀ rs : List Rw, rs.length ≤ Rw.nodesL rs
  | [] => Nat.zero_le _
  | r :: rs => by simp only [List.length_cons, Rw.nodesL]; have := Rw.len_le rs; have := r.nodes_pos; omega
theorem ok_sJ : PyData.strOk sJ = true := by decide +kernel
theorem ok_sR : PyData.strOk sR = true := by decide +kernel
theorem ok_sL : PyData.strOk sL = true := by decide +kernel
theorem ok_sM : PyData.strOk sM = true := by decide +kernel
theorem ok_let (c : Fin 26) : PyData.strOk (⟨#[97 + c.val]⟩ : Str) = true := by
  have : 97 + c.val < 1114112 := by omega
  simp [PyData.strOk, this]
end DL
set_option Elab.async false
set_option linter.all false
set_option maxRecDepth 100000
set_option maxHeartbeats 4000000
namespace DL
open PySem PySem.Spec PyProof.Rows L2
variable [Tb]
mutual
def Rw.dep : Rw → Nat
  | .let _ => 0
  | .join rs => Rw.depL rs + 1
  | .right r => r.dep + 1
  | .left r => r.dep + 1
  | .mix rs => Rw.depL rs + 1
def Rw.depL : List Rw → Nat
  | [] => 0
  | r :: rs => max r.dep (Rw.depL rs)
end
theorem Rw.dep_mem : ∀ {rs : List Rw} {r : Rw}, r ∈ rs → r.dep ≤ Rw.depL rs
  | [], r, m => by cases m
  | s :: rs, r, m => by
    simp only [Rw.depL]
    rcases List.mem_cons.mp m with rfl | m
    · omega
    · have := Rw.dep_mem m; omega
mutual
theorem Rw.lay : ∀ r : Rw, r.toD.canLay0 = true ∧ r.toD.depth ≤ 2 * r.dep
  | .let c => by
    simp only [Rw.toD, PyData.canLay0, PyData.depth]
    exact ⟨ok_let c, Nat.zero_le _⟩
  | .join rs => by
    have := Rw.layL rs
    simp only [Rw.toD, PyData.canLay0, PyData.canLayAll0, PyData.depth, PyData.depthAll, Rw.dep, this.1, ok_sJ, Bool.and_self, true_and]
    omega
  | .mix rs => by
    have := Rw.layL rs
    simp only [Rw.toD, PyData.canLay0, PyData.canLayAll0, PyData.depth, PyData.depthAll, Rw.dep, this.1, ok_sM, Bool.and_self, true_and]
    omega
  | .right r => by
    have := Rw.lay r
    simp only [Rw.toD, PyData.canLay0, PyData.canLayAll0, PyData.depth, PyData.depthAll, Rw.dep, this.1, ok_sR, Bool.and_self, true_and]
    omega
  | .left r => by
    have := Rw.lay r
    simp only [Rw.toD, PyData.canLay0, PyData.canLayAll0, PyData.depth, PyData.depthAll, Rw.dep, this.1, ok_sL, Bool.and_self, true_and]
    omega
theorem Rw.layL : ∀ rs : List Rw, PyData.canLayAll0 (Rw.toDs rs) = true ∧ PyData.depthAll (Rw.toDs rs) ≤ 2 * Rw.depL rs
  | [] => by simp only [Rw.toDs, PyData.canLayAll0, PyData.depthAll]; exact ⟨trivial, Nat.zero_le _⟩
  | r :: rs => by
    have := Rw.lay r
    have h := Rw.layL rs
    simp only [Rw.toDs, PyData.canLayAll0, PyData.depthAll, Rw.depL, this.1, h.1, Bool.and_self, true_and]
    omega
end
theorem Rw.sh (r : Rw) (h : r.dep ≤ 32) : SeqAt.shaped r.toD = true := by
  have := r.lay
  unfold SeqAt.shaped
  rw [this.1, decide_eq_true (by omega)]
  rfl
theorem eqv_str_self (s : Str) : PyData.eqv (.str s) (.str s) = true := by rw [eqv_str]; exact decide_eq_true rfl
theorem eqv_non : PyData.eqv .none .none = true := by simp only [PyData.eqv]
theorem len_app (s t : Str) : (s ++ t).length = s.length + t.length := by
  show (s.cps ++ t.cps).size = _
  rw [Array.size_append]
  rfl
def sumLen : List Str → Nat
  | [] => 0
  | t :: ts => t.length + 2 + sumLen ts
theorem len_sep : (Str.ofString ", ").length = 2 := by decide +kernel
theorem join_len : ∀ ts : List Str, ((Str.ofString ", ").join ts).length ≤ sumLen ts
  | [] => by simp [Str.join, sumLen]; decide
  | [t] => by simp only [Str.join, sumLen]; omega
  | t :: u :: ts => by
    have := join_len (u :: ts)
    simp only [Str.join, sumLen, len_app, len_sep] at this ⊢
    omega
theorem tup_len (ts : List Str) : (tupleText ts).length ≤ sumLen ts + 3 := by
  unfold tupleText
  rw [len_app, len_app]
  have h := join_len ts
  have h1 : (Str.ofString "(").length = 1 := by decide +kernel
  have h2 : (Str.ofString (if (ts.length == 1) = true then ",)" else ")")).length ≤ 2 := by
    split
    · decide +kernel
    · decide +kernel
  omega
theorem textFrom_len : ∀ (ts : List Str) (k : Nat) (s : Str), (textFrom k s ts).length ≤ s.length + sumLen ts
  | [], k, s => by simp only [textFrom, sumLen]; omega
  | t :: ts, k, s => by
    simp only [textFrom, sumLen]
    have h := textFrom_len ts (k + 1) (s ++ Str.ofString (if k > 0 then ", " else "") ++ t)
    rw [len_app, len_app] at h
    have h2 : (Str.ofString (if k > 0 then ", " else "")).length ≤ 2 := by
      split
      · decide +kernel
      · decide +kernel
    omega
theorem list_len (ts : List Str) : (listText ts).length ≤ sumLen ts + 2 := by
  unfold listText
  rw [len_app]
  have := textFrom_len ts 0 (Str.ofString "[")
  have h1 : (Str.ofString "[").length = 1 := by decide +kernel
  have h2 : (Str.ofString "]").length = 1 := by decide +kernel
  omega
theorem forW_inv {g : WG} {wb : WS} {E : ED} (I : List PyData → SD → Prop) (h0 : ∀ sd, I [] sd → E.nx sd) (h1 : ∀ d ds sd (k : SD → Prop), (∀ sd, I ds sd → k sd) → I (d :: ds) sd → g d sd fun sd1 => wb (loopE E k) sd1) :
    ∀ ds sd, I ds sd → forW g wb E ds sd
  | [], sd, h => h0 sd h
  | d :: ds, sd, h => h1 d ds sd _ (fun sd h => forW_inv I h0 h1 ds sd h) h
/-- one of one, in order -/
inductive Al (P : PyData → PyData → Prop) : List PyData → List PyData → Prop
  | nil : Al P [] []
  | cons {d e : PyData} {ds es : List PyData} : P d e → Al P ds es → Al P (d :: ds) (e :: es)
theorem lcW_each {g : WG} {t : WB} {we : WR} {sd : SD} (P : PyData → PyData → Prop) : ∀ (ds : List PyData) (Q : List PyData → Prop),
    (∀ d ∈ ds, ∀ (A : PyData → Prop) (B : Prop), (∀ x, P d x → A x) → g d sd fun sd2 => t sd2 fun b => if b = true then we sd2 (fun z => A z.dat) else B) →
    (∀ out, Al P ds out → Q out) → lcW g t we sd ds Q
  | [], Q, _, q => q [] .nil
  | d :: ds, Q, h, q => by
    refine h d List.mem_cons_self (fun x => lcW g t we sd ds fun out => Q (x :: out)) _ fun x px => ?_
    exact lcW_each P ds _ (fun e m => h e (List.mem_cons_of_mem _ m)) fun out ho => q _ (.cons px ho)
end DL
set_option Elab.async false
set_option linter.all false
set_option maxRecDepth 100000
set_option maxHeartbeats 4000000
namespace DL
open PySem PySem.Spec PyProof.Rows L2
variable [Tb]
theorem ok_app {s t : Str} (h1 : PyData.strOk s = true) (h2 : PyData.strOk t = true) : PyData.strOk (s ++ t) = true := by
  show (s.cps ++ t.cps).all (fun x => decide (x < 1114112)) = true
  rw [Array.all_append]
  exact Bool.and_eq_true_iff.mpr ⟨h1, h2⟩
def okAll : List Str → Prop
  | [] => True
  | t :: ts => PyData.strOk t = true ∧ okAll ts
theorem ok_sep : PyData.strOk (Str.ofString ", ") = true := by decide +kernel
theorem ok_join : ∀ ts : List Str, okAll ts → PyData.strOk ((Str.ofString ", ").join ts) = true
  | [], _ => by simp only [Str.join]; decide +kernel
  | [t], h => by simp only [Str.join]; exact h.1
  | t :: u :: ts, h => by
    have := ok_join (u :: ts) h.2
    simp only [Str.join] at this ⊢
    exact ok_app (ok_app h.1 ok_sep) this
theorem ok_tup {ts : List Str} (h : okAll ts) : PyData.strOk (tupleText ts) = true := by
  unfold tupleText
  refine ok_app (ok_app (by decide +kernel) (ok_join ts h)) ?_
  split
  · decide +kernel
  · decide +kernel
theorem ok_from : ∀ (ts : List Str) (k : Nat) (s : Str), PyData.strOk s = true → okAll ts → PyData.strOk (textFrom k s ts) = true
  | [], k, s, hs, _ => by simp only [textFrom]; exact hs
  | t :: ts, k, s, hs, h => by
    simp only [textFrom]
    refine ok_from ts _ _ (ok_app (ok_app hs ?_) h.1) h.2
    split
    · decide +kernel
    · decide +kernel
theorem ok_lst {ts : List Str} (h : okAll ts) : PyData.strOk (listText ts) = true := by
  unfold listText
  exact ok_app (ok_from ts _ _ (by decide +kernel) h) (by decide +kernel)
theorem ok_shownN : PyData.strOk PyData.none.shown = true := by decide +kernel
end DL
set_option Elab.async false
set_option linter.all false
set_option maxRecDepth 100000
set_option maxHeartbeats 400000
namespace DL
open PySem PySem.Spec PyProof.Rows L2
variable [Tb]
section
variable {X : Cx} {e a b : Expr} {m m1 m2 : Md} {pos p : Pos}
def wNotV (w : WR) : WR := fun sd Q => w sd fun r => match r with
  | .va (.bool c) => Q (.va (.bool (!c)))
  | _ => False
def flatD : PyData → Bool
  | .none => true
  | .bool _ => true
  | .int _ => true
  | .str _ => true
  | _ => false
def rdIn (neg : Bool) : RD2 := fun d e Q => match e with
  | .list ys => (flatD d = true ∧ ys.all flatD = true) ∧ Q (.va (.bool (if neg then !(ys.any fun y => y.eqv d) else ys.any fun y => y.eqv d)))
  | .tuple ys => (flatD d = true ∧ ys.all flatD = true) ∧ Q (.va (.bool (if neg then !(ys.any fun y => y.eqv d) else ys.any fun y => y.eqv d)))
  | .dict es => isKey d = true ∧ Q (.va (.bool (if neg then !(lookD es d).isSome else (lookD es d).isSome)))
  | _ => False
theorem rdIn_mo {neg : Bool} : Mo2 (rdIn neg) := by
  intro d e Q Q' k q
  unfold rdIn at q ⊢
  split at q <;> first | exact ⟨q.1, k _ q.2⟩ | exact q.elim
theorem Dx.flat {K : PySem.W.Frag} {H : Hp} {v : V} {d : PyData} (h : Dx K H v d) (f : flatD d = true) : flatV v = true := by
  cases h <;> first | rfl | exact absurd f Bool.false_ne_true
theorem eqV_data {K : PySem.W.Frag} {H : Hp} {x y : V} {d e : PyData} (h1 : Dx K H x d) (h2 : Dx K H y e) (f1 : flatD d = true) (f2 : flatD e = true) : eqV x y = d.eqv e := by
  cases h1 <;> cases h2 <;> first
    | exact absurd f1 Bool.false_ne_true
    | exact absurd f2 Bool.false_ne_true
    | (simp only [eqV, PyData.eqv]; done)
    | (simp only [eqV, PyData.eqv]; rfl)
    | (simp [eqV, PyData.eqv]; done)
theorem flats {K : PySem.W.Frag} {H : Hp} : ∀ {vs : List V} {ds : List PyData}, DxAll K H vs ds → ds.all flatD = true → vs.all flatV = true
  | _, _, .nil, _ => rfl
  | _, _, .cons h t, f => by
    rw [List.all_cons, Bool.and_eq_true] at f
    rw [List.all_cons, h.flat f.1, flats t f.2]
    rfl
theorem inV_data {K : PySem.W.Frag} {H : Hp} {x : V} {d : PyData} (h : Dx K H x d) (f : flatD d = true) : ∀ {vs : List V} {ds : List PyData}, DxAll K H vs ds → ds.all flatD = true → inV x vs = ds.any fun y => y.eqv d
  | _, _, .nil, _ => rfl
  | _, _, .cons g t, q => by
    rw [List.all_cons, Bool.and_eq_true] at q
    have e := inV_data h f t q.2
    unfold inV at e ⊢
    rw [List.any_cons, List.any_cons, eqV_data g h q.1 f, e]
theorem shFlat {K : PySem.W.Frag} {S O : List Addr} {H : Hp} {x : V} {d : PyData} (h : DM .sh K S O H x d) (f : flatD d = true) : Dx K (hid O H) x d := by
  cases d with
  | list _ => exact absurd f Bool.false_ne_true
  | dict _ => exact absurd f Bool.false_ne_true
  | _ => exact h
def rInD (neg : Bool) : R2 := fun x y H Q => ∃ (a : Addr) (kvs : List (Key × V)) (k : Key), y = .ref a ∧ x = kV k ∧ H a = some (.dK kvs) ∧ Q (.bl (if neg then !(valV kvs k).isSome else (valV kvs k).isSome)) H
theorem op_in_dict (hu : X.A.units + 1 < cLine) : OpR X (compareOp .In) (rInD false) := by
  intro pins s σ H x y v u Q I rx ry h
  obtain ⟨a, kvs, k, rfl, rfl, e, q⟩ := h
  cases ry
  exact d_in hu I (DGet.k e) rx fun s' I' => ⟨.bl _, H, I', rfl, q⟩
theorem br_in {K : PySem.W.Frag} {neg : Bool} : Br2 K .sh .sh (fun x y H Q => rIn K neg x y H Q ∨ rInD neg x y H Q) (rdIn neg) := by
  intro S O H x y d e Q hs hO hx hy q
  unfold rdIn at q
  split at q
  · obtain ⟨⟨f1, f2⟩, q⟩ := q
    obtain ⟨a, us, rfl, h1, h2⟩ := hy
    have dx := shFlat hx f1
    exact .inl ⟨a, us, rfl, .inl (.inl (.inl (hid_some h1).2)), dx.flat f1, flats h2 f2, by rw [inV_data dx f1 h2 f2]; exact q _ H (Same.refl H) (.bl _)⟩
  · obtain ⟨⟨f1, f2⟩, q⟩ := q
    obtain ⟨a, us, rfl, h1, h2⟩ := shTup hy
    have dx := shFlat hx f1
    exact .inl ⟨a, us, rfl, .inr (SqT.same hid_sub h1), dx.flat f1, flats h2 f2, by rw [inV_data dx f1 h2 f2]; exact q _ H (Same.refl H) (.bl _)⟩
  · rename_i es
    obtain ⟨kb, q⟩ := q
    obtain ⟨k, rfl⟩ := isKey_get kb
    obtain ⟨a, o, rfl, h1, h2⟩ := hy
    have hx : Dx K (hid O H) x (keyD k) := by cases k <;> exact hx
    obtain ⟨kvs, rfl, h3⟩ := h2.look k
    have e : (valV kvs k).isSome = (lookD es (keyD k)).isSome := by
      rcases h3 with ⟨h3, h4⟩ | ⟨v, d, h3, h4, _⟩
      · rw [h3, h4]; rfl
      · rw [h3, h4]; rfl
    exact .inr ⟨a, kvs, k, rfl, dx_key hx, (hid_some h1).2, by rw [e]; exact q _ H (Same.refl H) (.bl _)⟩
  · exact q.elim
theorem un1 (hu : X.A.units + 64 < cLine) : X.A.units + 1 < cLine := Nat.lt_of_le_of_lt (by omega) hu
theorem od_in (hu : X.A.units + 64 < cLine) : OpD X (compareOp .In) .sh .sh (rdIn false) := ⟨⟨_, op_in_seq.or (op_in_dict (un1 hu)), br_in⟩, rdIn_mo⟩
end
end DL
set_option Elab.async false
set_option linter.all false
set_option maxRecDepth 100000
set_option maxHeartbeats 400000
namespace DL
open PySem PySem.Spec PyProof.Rows L2
variable [Tb]
section
variable {X : Cx} {e a b : Expr} {es : List Expr} {m m1 m2 : Md} {pos p : Pos} {x : Str} {k n : Nat} {f : Addr} {fd : FuncData} {ps : List Str} {fs : FSp} {wa : WA}
def wFn (f : Addr) (ws : WA) : WA := fun sd Q => ws sd fun ds => Q (.fn f :: ds)
/-- a def of the module's as an argument -/
theorem eva_fn {ws : WA} (hm : X.mg x = some (.ref f)) (t : EvA m X es ws) (hg : Gl X x := by rfl) (hdb : (x == ("__debug__" : Str)) = false := by decide)
    (hs : starEach (.Name x pos :: es) X.env = (false, eval (.Name x pos) X.env) :: starEach es X.env := by rfl) : EvA m X (.Name x pos :: es) (wFn f ws) where
  pa := PA.weak (pa_cons (pe_glob (v := .ref f) hg hm rfl hdb) t.pa hs) fun σ H Q ⟨c, sd, os, hk, r, q⟩ =>
    ⟨c, sd, os, hk, r, t.mo _ _ _ (fun ds k2 vs H2 x2 d2 => k2 _ H2 x2 (.fn d2)) q⟩
  mo := fun sd Q Q' k q => t.mo _ _ _ (fun ds z => k _ z) q
/-- slot i holds the def at f -/
def wCallL (i : Nat) (f : Addr) (n : Nat) (fs : FSp) (wa : WA) : WR := fun sd Q => getS sd i = .fn f ∧ wa sd fun as => as.length = n ∧ fs as Q
theorem pe_callGL {CX : CXT} {sp : Sp} {E : XK} {i : Nat} {t : TA} (F : FnG X.prog X.w X.K X.mg X.base CX k f fd ps sp) (hr : RmG k X.A) (hN : X.N[i]? = some x) (hv : Vis X.env.scope x)
    (hk : PySem.W.keepIn X.K (.ref f) = true) (hb : Binds X.K fd ps []) (hx : Passes CX X E) (ha : PA X (e :: es) t)
    (hdb : (x == ("__debug__" : Str)) = false := by decide) (hcd : (x == ("__classdict__" : Str)) = false := by decide)
    (he : starEach (e :: es) X.env = (false, eval e X.env) :: starEach es X.env := by rfl) (hpl : (backTo pos (starEach es X.env)).any (·.1) = false := by rfl) :
    PE X (.Call (.Name x p) (e :: es) [] pos) (fun σ H Q => σ[i]? = some (some (.ref f)) ∧ t σ H fun vs H1 => sp vs H1 Q E) := by
  refine ⟨fun pins s σ H Q I h => ?_⟩
  obtain ⟨g1, g2⟩ := h
  refine wpAny_Call_Name_kw (thn ((pe_var (pos := p) hN hv hdb hcd).run pins s σ H (fun v H1 => v = .ref f ∧ H1 = H) I ⟨.ref f, g1, rfl, rfl⟩) fun u s1 ⟨v, H1, I1, r1, q1⟩ => ?_)
  obtain ⟨rfl, rfl⟩ := q1
  cases r1
  apply PySem.W.callWith_K (h₀ := X.base) I1.ok.mod.kin hk _ he hpl
  apply thn (ha.run pos pins s1 σ _ _ I1 g2)
  rintro us s2 ⟨vs, H2, I2, r, q⟩
  exact ⟨I2.kIn, run_G F hr hb hx I2 r q⟩
theorem evr_callL (i : Nat) (F : FnG X.prog X.w X.K X.mg X.base CX0 k f fd ps (PSp X.K n fs)) (hmo : MoF fs) (hr : RmG k X.A)
    (hk : PySem.W.keepIn X.K (.ref f) = true) (hb : Binds X.K fd ps []) (ha : EvA .cl X (e :: es) wa) (hN : X.N[i]? = some x := by rfl)
    (hv : Vis X.env.scope x := by first | exact Or.inl rfl | exact Or.inr (Or.inl rfl) | exact Or.inr (Or.inr rfl))
    (hdb : (x == ("__debug__" : Str)) = false := by decide) (hcd : (x == ("__classdict__" : Str)) = false := by decide)
    (he : starEach (e :: es) X.env = (false, eval e X.env) :: starEach es X.env := by rfl)
    (hpl : (backTo pos (starEach es X.env)).any (·.1) = false := by rfl) :
    EvR X (.Call (.Name x p) (e :: es) [] pos) (wCallL i f n fs wa) where
  pe := PE.weak (pe_callGL F hr hN hv hk hb pass0 ha.pa hdb hcd he hpl) fun σ H Q ⟨c, sd, os, hk, r, g, q⟩ => by
    obtain ⟨v, oa, h1, h2, h3, rfl⟩ := r.at_ g (by intro z; cases z)
    exact ⟨h1, c, sd, os, hk, r, ha.mo _ _ _ (fun as kq vs H1 x1 d1 => ⟨c.S, OO c os, as, (r.grow x1).srcNow, r.sO, (r.grow x1).ocNow, d1, kq.1, hmo _ _ _ (fun z kz v H' x2 rv =>
      kz v H' (x1.trans x2) (RvR.from r.sO (fun a m => (r.grow x1).there m) x1 rv)) kq.2⟩) q⟩
  mo := fun sd Q Q' k q => ⟨q.1, ha.mo _ _ _ (fun as z => ⟨z.1, hmo _ _ _ k z.2⟩) q.2⟩
end
end DL
set_option Elab.async false
set_option linter.all false
set_option maxRecDepth 100000
set_option maxHeartbeats 400000
namespace DL
open PySem PySem.Spec PyProof.Rows L2
variable [Tb]
section
variable {X : Cx} {e a b : Expr} {es : List Expr} {m m1 m2 : Md} {pos p : Pos} {x : Str} {k n : Nat} {f : Addr} {fd : FuncData} {ps : List Str} {fs : FSp} {wa : WA}
def dSum (d : PyData) (Q : RV → Prop) : Prop := match d with
  | .list xs => ∃ ns : List Int, xs = ns.map PyData.int ∧ Q (.va (.int ns.sum))
  | _ => False
theorem all_ints {K : PySem.W.Frag} {H : Hp} : ∀ {vs : List V} {ns : List Int}, DxAll K H vs (ns.map PyData.int) → vs = ns.map V.int
  | _, [], .nil => rfl
  | _, n :: ns, .cons h t => by
    cases h
    rw [all_ints t]
    rfl
theorem cd_sum (hc : X.calm = true) : CallD X (.builtin "sum") .sh (rd1 dSum) where
  ex := ⟨_, cr_sum hc, rd1_br fun S O H x d Q hs hO hd q => by
    unfold dSum at q
    split at q
    · obtain ⟨ns, rfl, q⟩ := q
      obtain ⟨a, us, rfl, h1, h2⟩ := hd
      have e := all_ints h2
      subst e
      exact ⟨a, ns, rfl, .inl (.inl (hid_some h1).2), q _ H (Same.refl H) (.int _)⟩
    · exact q.elim⟩
  mo := rd1_mo fun d Q Q' k q => by
    unfold dSum at q ⊢
    split at q
    · obtain ⟨ns, e, q⟩ := q
      exact ⟨ns, e, k _ q⟩
    · exact q.elim
def signV (z : Str) : List V := z.cps.toList.map fun c => .str ⟨#[c]⟩
def signD (z : Str) : List PyData := z.cps.toList.map fun c => .str ⟨#[c]⟩
theorem sign_dx {K : PySem.W.Frag} {H : Hp} : ∀ cs : List Nat, DxAll K H (cs.map fun c => V.str ⟨#[c]⟩) (cs.map fun c => PyData.str ⟨#[c]⟩)
  | [] => .nil
  | c :: cs => .cons (.str _) (sign_dx cs)
theorem sign_vals : ∀ (cs : List Nat) (vs : List Value), vs.length = cs.length → (∀ (j : Nat) (v : Value), vs[j]? = some v → ∃ (c : Nat) (u : Tok), cs[j]? = some c ∧ v = Value.str ⟨#[c]⟩ u) → Vals (cs.map fun c => V.str ⟨#[c]⟩) vs
  | [], [], _, _ => .nil
  | [], _ :: _, h, _ => by cases h
  | _ :: _, [], h, _ => by cases h
  | c :: cs, v :: vs, h, k => by
    obtain ⟨c', u, e1, e2⟩ := k 0 v rfl
    cases e1
    exact .cons ⟨u, e2⟩ (sign_vals cs vs (Nat.succ.inj h) fun j w e => k (j + 1) w e)
theorem sign_ok {z : Str} {acc : Array Value} (h : ItemsOf (SignAt z) acc z.cps.size) : Vals (signV z) acc.toList := by
  refine sign_vals _ _ (by rw [Array.length_toList, Array.length_toList]; exact h.1) fun j v e => ?_
  rw [Array.getElem?_toList] at e
  obtain ⟨c, u, e1, e2⟩ := h.2 j v e
  exact ⟨c, u, by rw [Array.getElem?_toList]; exact e1, e2⟩
theorem call_list_txt (hc : X.calm = true) : CallR X (.type "list") (fun xs H Q => ∃ z, xs = [.str z] ∧ z.length ≤ sizeLine ∧ ∀ l, H l = none → Q (.ref l) (upd H l (.lst (signV z)))) := by
  rintro pins s σ H xs us Q I r ⟨z, rfl, hz, q⟩
  obtain ⟨u, rfl, rx⟩ := vals1 r
  obtain ⟨t, rfl⟩ := rx
  refine call_list_str (I.ok.hd hc) z t (fun h' tk acc c' kp e it => ?_) hz
  refine ⟨.ref s.heap.objs.size, upd H s.heap.objs.size (.lst (signV z)), Inv.laid I kp (Nat.le_refl _) ⟨?_, acc.toList, c', sign_ok it, by rw [Array.toArray_toList]; exact e⟩, rfl, q _ (HOk.fresh I.hok (Nat.le_refl _))⟩
  unfold signV
  rw [List.length_map, Array.length_toList]
  exact hz
def dListS (d : PyData) (Q : RV → Prop) : Prop := match d with
  | .str z => z.length ≤ sizeLine ∧ Q (.fr (signD z))
  | _ => False
theorem cd_listS (hc : X.calm = true) : CallD X (.type "list") .sh (rd1 dListS) where
  ex := ⟨_, call_list_txt hc, rd1_br fun S O H x d Q hs hO hd q => by
    unfold dListS at q
    split at q
    · exact ⟨_, by rw [shStr hd], q.1, fun p hp => q.2 _ _ (same_new hp) (rv_lst hp (sign_dx _))⟩
    · exact q.elim⟩
  mo := rd1_mo fun d Q Q' k q => by
    unfold dListS at q ⊢
    split at q <;> first | exact ⟨q.1, k _ q.2⟩ | exact q.elim
theorem lcW_rows {α : Type} {g : WG} {t : WB} {we : WR} {sd : SD} (to : α → PyData) (f : α → PyData) : ∀ (rs : List α) (Q : List PyData → Prop),
    (∀ r ∈ rs, ∀ (A : PyData → Prop) (B : Prop), A (f r) → g (to r) sd fun sd2 => t sd2 fun b => if b = true then we sd2 (fun z => A z.dat) else B) →
    Q (rs.map f) → lcW g t we sd (rs.map to) Q
  | [], Q, _, q => q
  | r :: rs, Q, h, q => by
    refine h r List.mem_cons_self (fun x => lcW g t we sd (rs.map to) fun out => Q (x :: out)) _ ?_
    exact lcW_rows to f rs _ (fun e m => h e (List.mem_cons_of_mem _ m)) q
end
end DL
set_option Elab.async false
set_option linter.all false
set_option maxRecDepth 100000
set_option maxHeartbeats 400000
namespace DL
open PySem PySem.Spec PyProof.Rows L2
variable [Tb]
section
variable {X : Cx} {e a b : Expr} {es : List Expr} {m m1 m2 : Md} {pos p : Pos} {x : Str}
theorem EvR.imp {w w' : WR} (h : EvR X e w) (k : ∀ sd Q, w' sd Q → w sd Q) (mo : ∀ sd (Q Q' : RV → Prop), (∀ r, Q r → Q' r) → w' sd Q → w' sd Q') : EvR X e w' where
  pe := PE.weak h.pe fun σ H Q ⟨c, sd, os, hk, r, q⟩ => ⟨c, sd, os, hk, r, k _ _ q⟩
  mo := mo
theorem EvT.imp {w w' : WB} (h : EvT X e w) (k : ∀ sd Q, w' sd Q → w sd Q) (mo : ∀ sd (Q Q' : Bool → Prop), (∀ r, Q r → Q' r) → w' sd Q → w' sd Q') : EvT X e w' where
  pt := PT.weak h.pt fun σ H Q ⟨c, sd, os, hk, r, q⟩ => ⟨c, sd, os, hk, r, k _ _ q⟩
  mo := mo
def isStrD : PyData → Bool | .str _ => true | _ => false
def isTupD : PyData → Bool | .tuple _ => true | _ => false
def isLstD : PyData → Bool | .list _ => true | _ => false
def isDctD : PyData → Bool | .dict _ => true | _ => false
def isBooD : PyData → Bool | .bool _ => true | _ => false
def isIntD : PyData → Bool | .int _ => true | .bool _ => true | _ => false
theorem kit_str (d : PyData) : kitB (tyN d) "str" = some (isStrD d) := by cases d <;> (simp only [tyN, isStrD]; decide +kernel)
def wIs (f : PyData → Bool) (w : WD) : WR := fun sd Q => w sd fun d => Q (.va (.bool (f d)))
theorem evr_is {w : WD} {p2 : Pos} (T : String) (tx : Str) {f : PyData → Bool} (k : ∀ d, kitB (tyN d) T = some (f d)) (h : Ev .bo X e w) (hm : X.mg "isinstance" = none) (hmt : X.mg tx = none) (hv : bootBuiltins "isinstance" = some (.builtin "isinstance")) (hvt : bootBuiltins tx = some (.type T))
    (hg : Gl X "isinstance" := by rfl) (hgt : Gl X tx := by rfl) (hn : tx ≠ "__name__" := by decide) (hdb : (tx == ("__debug__" : Str)) = false := by decide)
    (h1 : starEach [e, .Name tx p2] X.env = (false, eval e X.env) :: starEach [.Name tx p2] X.env := by rfl) (h2 : starEach [.Name tx p2] X.env = (false, eval (.Name tx p2) X.env) :: starEach [] X.env := by rfl)
    (hpl : (backTo pos (starEach [.Name tx p2] X.env)).any (·.1) = false := by rfl) :
    EvR X (.Call (.Name "isinstance" p) [e, .Name tx p2] [] pos) (wIs f w) :=
  (evr_isi T tx h hm hmt hv hvt hg hgt hn hdb h1 h2 hpl).imp (fun sd Q q => h.mo _ _ _ (fun d z => by show match kitB (tyN d) T with | some b => Q (.va (.bool b)) | none => False; rw [k]; exact z) q)
    (fun sd Q Q' k q => h.mo _ _ _ (fun d z => k _ z) q)
def nthD : List PyData → Nat → Option PyData
  | [], _ => none
  | d :: _, 0 => some d
  | _ :: ds, n + 1 => nthD ds n
theorem nthD_atI : ∀ (ds : List PyData) (n : Nat), atI ds (n : Int) = nthD ds n := by
  intro ds n
  have key : ∀ (ds : List PyData) (n : Nat), nthD ds n = ds[n]? := by
    intro ds
    induction ds with
    | nil => intro n; simp [nthD]
    | cons d ds ih =>
      intro n
      cases n with
      | zero => rfl
      | succ n => simp [nthD, ih]
  rw [key]
  cases h : ds[n]? with
  | some v => exact L2.atI_nat h
  | none =>
    unfold atI ixN
    have hl : ds.length ≤ n := by rw [List.getElem?_eq_none_iff] at h; exact h
    rw [if_pos (by omega), if_neg (by omega)]
    rfl
def ixC (n : Nat) (d : PyData) (Q : RV → Prop) : Prop := match d with
  | .list xs => match nthD xs n with
    | some v => Q (.va v)
    | none => False
  | .tuple xs => match nthD xs n with
    | some v => Q (.va v)
    | none => False
  | .str z => z.length ≤ sizeLine ∧ match atI z.cps.toList n with
    | some c => Q (.va (.str ⟨#[c]⟩))
    | none => False
  | _ => False
theorem ixC_mo {n : Nat} {d : PyData} {Q Q' : RV → Prop} (k : ∀ r, Q r → Q' r) (q : ixC n d Q) : ixC n d Q' := by
  unfold ixC at q ⊢
  split at q
  · split at q
    · exact k _ q
    · exact q.elim
  · split at q
    · exact k _ q
    · exact q.elim
  · refine ⟨q.1, ?_⟩
    have q2 := q.2
    split at q2
    · exact k _ q2
    · exact q2.elim
  · exact q.elim
def wIxC (n : Nat) (w : WD) : WR := fun sd Q => w sd fun d => ixC n d Q
theorem ixC_rd {n : Nat} {d : PyData} {Q : RV → Prop} (q : ixC n d Q) : rdIxS d (.int (n : Int)) Q := by
  unfold ixC at q
  unfold rdIxS
  cases d with
  | list xs => simp only at q ⊢; rw [nthD_atI]; exact q
  | tuple xs => simp only at q ⊢; rw [nthD_atI]; exact q
  | str z => exact q
  | none => exact q.elim
  | bool b => exact q.elim
  | int i => exact q.elim
  | dict k => exact q.elim
theorem evr_ixC {w : WD} {j : Nat} {p1 : Pos} (n : Nat) (h : Ev .sh X a w) : EvR X (.Subscript a (.Constant (.int (n : Int)) j p1) pos) (wIxC n w) :=
  (evr_ix id_ixS h ev_int).imp (fun sd Q q => h.mo _ _ _ (fun d z => ixC_rd z) q) (fun sd Q Q' k q => h.mo _ _ _ (fun d z => ixC_mo k z) q)
def dEq (d e : PyData) (Q : Bool → Prop) : Prop := match d, e with
  | .int i, .int j => Q (decide (i = j))
  | .str i, .str j => Q (decide (i = j))
  | .none, .none => Q true
  | .bool i, .bool j => Q (decide (i = j))
  | .none, .str _ => Q false
  | .str _, .none => Q false
  | .none, .int _ => Q false
  | .int _, .none => Q false
  | .int _, .str _ => Q false
  | .str _, .int _ => Q false
  | d, e => (SeqAt.shaped d = true ∧ SeqAt.shaped e = true) ∧ Q (PyData.eqv d e)
def rdEq2 (neg : Bool) : RD2 := fun d e Q => dEq d e fun b => Q (.va (.bool (if neg then !b else b)))
theorem dEq_mo {d e : PyData} {Q Q' : Bool → Prop} (k : ∀ r, Q r → Q' r) (q : dEq d e Q) : dEq d e Q' := by
  unfold dEq at q ⊢
  split at q <;> first | exact k _ q | exact ⟨q.1, k _ q.2⟩
theorem rdEq2_mo {n : Bool} : Mo2 (rdEq2 n) := fun d e Q Q' k q => dEq_mo (fun r z => k _ z) q
theorem boInt {K : PySem.W.Frag} {S O : List Addr} {H : Hp} {x : V} {i : Int} (h : DM .bo K S O H x (.int i)) : x = .int i := by cases h; rfl
theorem boStr {K : PySem.W.Frag} {S O : List Addr} {H : Hp} {x : V} {i : Str} (h : DM .bo K S O H x (.str i)) : x = .str i := by cases h; rfl
theorem boBl {K : PySem.W.Frag} {S O : List Addr} {H : Hp} {x : V} {i : Bool} (h : DM .bo K S O H x (.bool i)) : x = .bl i := by cases h; rfl
theorem boNon {K : PySem.W.Frag} {S O : List Addr} {H : Hp} {x : V} (h : DM .bo K S O H x .none) : x = .non := by cases h; rfl
theorem br_eq2 {K : PySem.W.Frag} : Br2 K .bo .bo (fun x y H Q => rEq x y H Q ∨ rEqD K x y H Q) (rdEq2 false) := by
  intro S O H x y d e Q hs hO hx hy q
  unfold rdEq2 dEq at q
  split at q
  · rw [boInt hx, boInt hy]; exact .inl ⟨rfl, by simpa using q _ H (Same.refl H) (.bl _)⟩
  · rw [boStr hx, boStr hy]; exact .inl ⟨rfl, by simpa using q _ H (Same.refl H) (.bl _)⟩
  · rw [boNon hx, boNon hy]; exact .inl ⟨rfl, by simpa using q _ H (Same.refl H) (.bl _)⟩
  · rw [boBl hx, boBl hy]; exact .inl ⟨rfl, by simpa using q _ H (Same.refl H) (.bl _)⟩
  · rw [boNon hx, boStr hy]; exact .inl ⟨rfl, by simpa using q _ H (Same.refl H) (.bl _)⟩
  · rw [boStr hx, boNon hy]; exact .inl ⟨rfl, by simpa using q _ H (Same.refl H) (.bl _)⟩
  · rw [boNon hx, boInt hy]; exact .inl ⟨rfl, by simpa using q _ H (Same.refl H) (.bl _)⟩
  · rw [boInt hx, boNon hy]; exact .inl ⟨rfl, by simpa using q _ H (Same.refl H) (.bl _)⟩
  · rw [boInt hx, boStr hy]; exact .inl ⟨rfl, by simpa using q _ H (Same.refl H) (.bl _)⟩
  · rw [boStr hx, boInt hy]; exact .inl ⟨rfl, by simpa using q _ H (Same.refl H) (.bl _)⟩
  · exact .inr ⟨_, _, boDp hx q.1.1, boDp hy q.1.2, q.1.1, q.1.2, q.2 _ H (Same.refl H) (.bl _)⟩
theorem br_ne2 {K : PySem.W.Frag} : Br2 K .bo .bo (fun x y H Q => rNe x y H Q ∨ rNeD K x y H Q) (rdEq2 true) := by
  intro S O H x y d e Q hs hO hx hy q
  unfold rdEq2 dEq at q
  split at q
  · rw [boInt hx, boInt hy]; exact .inl ⟨rfl, by simpa using q _ H (Same.refl H) (.bl _)⟩
  · rw [boStr hx, boStr hy]; exact .inl ⟨rfl, by simpa using q _ H (Same.refl H) (.bl _)⟩
  · rw [boNon hx, boNon hy]; exact .inl ⟨rfl, by simpa using q _ H (Same.refl H) (.bl _)⟩
  · rw [boBl hx, boBl hy]; exact .inl ⟨rfl, by simpa using q _ H (Same.refl H) (.bl _)⟩
  · rw [boNon hx, boStr hy]; exact .inl ⟨rfl, by simpa using q _ H (Same.refl H) (.bl _)⟩
  · rw [boStr hx, boNon hy]; exact .inl ⟨rfl, by simpa using q _ H (Same.refl H) (.bl _)⟩
  · rw [boNon hx, boInt hy]; exact .inl ⟨rfl, by simpa using q _ H (Same.refl H) (.bl _)⟩
  · rw [boInt hx, boNon hy]; exact .inl ⟨rfl, by simpa using q _ H (Same.refl H) (.bl _)⟩
  · rw [boInt hx, boStr hy]; exact .inl ⟨rfl, by simpa using q _ H (Same.refl H) (.bl _)⟩
  · rw [boStr hx, boInt hy]; exact .inl ⟨rfl, by simpa using q _ H (Same.refl H) (.bl _)⟩
  · exact .inr ⟨_, _, boDp hx q.1.1, boDp hy q.1.2, q.1.1, q.1.2, q.2 _ H (Same.refl H) (.bl _)⟩
theorem od_eq2 (hu : X.A.units + 64 < cLine) : OpD X (compareOp .Eq) .bo .bo (rdEq2 false) := ⟨⟨_, op_eq.or (op_eqD hu), br_eq2⟩, rdEq2_mo⟩
theorem od_ne2 (hu : X.A.units + 64 < cLine) : OpD X (compareOp .NotEq) .bo .bo (rdEq2 true) := ⟨⟨_, op_ne.or (op_neD hu), br_ne2⟩, rdEq2_mo⟩
def wNeg (w : WD) : WR := fun sd Q => w sd fun d => match d with
  | .int i => Q (.va (.int (-i)))
  | _ => False
theorem evr_neg {w : WD} (h : Ev .sh X a w) : EvR X (.UnaryOp .USub a pos) (wNeg w) where
  pe := PE.weak (pe_un un_neg h.pe) fun σ H Q ⟨c, sd, os, hk, r, q⟩ => ⟨c, sd, os, hk, r, h.mo _ _ _ (fun d k v H1 x1 dm => by
    cases d with
    | int i => exact ⟨i, shInt dm, k _ H1 x1 (.int _)⟩
    | _ => exact k.elim) q⟩
  mo := fun sd Q Q' k q => h.mo _ _ _ (fun d z => by
    cases d with
    | int i => exact k _ z
    | _ => exact z.elim) q
end
end DL
set_option Elab.async false
set_option linter.all false
set_option maxRecDepth 100000
set_option maxHeartbeats 400000
namespace DL
open PySem PySem.Spec PyProof.Rows L2
variable [Tb]
/-- a thing's data and its parts -/
inductive Rose where
  | node (d : PyData) (cs : List Rose)
def Rose.d : Rose → PyData | .node d _ => d
def Rose.cs : Rose → List Rose | .node _ cs => cs
mutual
def Rose.many : Rose → Nat | .node _ cs => 1 + Rose.manyL cs
def Rose.manyL : List Rose → Nat | [] => 0 | c :: cs => c.many + Rose.manyL cs
end
mutual
/-- a thing's parts in order, what stands in a part ahead of it, last itself -/
def Rose.inner : Rose → List Rose | .node d cs => Rose.innerL cs ++ [.node d cs]
def Rose.innerL : List Rose → List Rose | [] => [] | c :: cs => c.inner ++ Rose.innerL cs
end
theorem Rose.many_eq (t : Rose) : t.many = 1 + Rose.manyL t.cs := by cases t; simp only [Rose.many, Rose.cs]
theorem Rose.inner_eq (t : Rose) : t.inner = Rose.innerL t.cs ++ [t] := by cases t; simp only [Rose.inner, Rose.cs]
theorem Rose.innerL_app : ∀ xs ys : List Rose, Rose.innerL (xs ++ ys) = Rose.innerL xs ++ Rose.innerL ys
  | [], _ => rfl
  | x :: xs, ys => by simp only [List.cons_append, Rose.innerL, Rose.innerL_app xs ys, List.append_assoc]
theorem Rose.manyL_app : ∀ xs ys : List Rose, Rose.manyL (xs ++ ys) = Rose.manyL xs + Rose.manyL ys
  | [], _ => by simp only [List.nil_append, Rose.manyL, Nat.zero_add]
  | x :: xs, ys => by simp only [List.cons_append, Rose.manyL, Rose.manyL_app xs ys, Nat.add_assoc]
mutual
theorem Rose.inner_len : ∀ t : Rose, t.inner.length = t.many
  | .node d cs => by simp only [Rose.inner, Rose.many, List.length_append, Rose.innerL_len cs, List.length_cons, List.length_nil]; omega
theorem Rose.innerL_len : ∀ ts : List Rose, (Rose.innerL ts).length = Rose.manyL ts
  | [] => rfl
  | t :: ts => by simp only [Rose.innerL, Rose.manyL, List.length_append, Rose.inner_len t, Rose.innerL_len ts]
end
theorem Rose.len_le : ∀ ts : List Rose, ts.length ≤ Rose.manyL ts
  | [] => Nat.le_refl _
  | t :: ts => by
    have := Rose.len_le ts
    have := t.many_eq
    simp only [List.length_cons, Rose.manyL]; omega
/-- a def that tells a thing's parts -/
def fsNode (ok : Rose → Prop) : FSp := fun as Q => ∃ t : Rose, ok t ∧ as = [.va t.d] ∧ ∀ d : PyData, (d = .list (t.cs.map Rose.d) ∨ d = .tuple (t.cs.map Rose.d)) → ∀ z : RV, z.dat = d → Q z
theorem moNode {ok : Rose → Prop} : MoF (fsNode ok) := fun as Q Q' k ⟨t, h1, h2, h3⟩ => ⟨t, h1, h2, fun d e z f => k _ (h3 d e z f)⟩
def Her (ok : Rose → Prop) : Prop := ∀ t, ok t → ∀ c ∈ t.cs, ok c
def fs_inner_first (f : Addr) (ok : Rose → Prop) : FSp := fun as Q => ∃ t : Rose, ok t ∧ t.many ≤ 1000000 ∧ as = [.va t.d, .fn f] ∧ Q (.fr (t.inner.map Rose.d))
theorem mo_inner_first {f : Addr} {ok : Rose → Prop} : MoF (fs_inner_first f ok) := fun as Q Q' k ⟨t, h1, h2, h3, h4⟩ => ⟨t, h1, h2, h3, k _ h4⟩
/-- the loop's middle: what waits, from behind -/
theorem inner_step (t : Rose) (init : List Rose) : (Rose.innerL (init ++ [t])) = Rose.innerL (init ++ t.cs) ++ [t] := by
  rw [Rose.innerL_app, Rose.innerL_app, List.append_assoc]
  simp only [Rose.innerL, List.append_nil]
  rw [t.inner_eq]
theorem many_step (t : Rose) (init : List Rose) : Rose.manyL (init ++ [t]) = Rose.manyL (init ++ t.cs) + 1 := by
  rw [Rose.manyL_app, Rose.manyL_app]
  simp only [Rose.manyL]
  have := t.many_eq
  omega
theorem z1 : (1 : Nat) ≤ sizeLine := by decide
def Rw.parts : Rw → List Rw
  | .let _ => []
  | .join rs => rs
  | .right r => [r]
  | .left r => [r]
  | .mix rs => rs
mutual
def Rw.wf : Rw → Bool
  | .let _ => true
  | .join rs => decide (2 ≤ rs.length) && Rw.wfL rs
  | .right r => r.wf
  | .left r => r.wf
  | .mix rs => decide (1 ≤ rs.length) && Rw.wfL rs
def Rw.wfL : List Rw → Bool
  | [] => true
  | r :: rs => r.wf && Rw.wfL rs
end
theorem Rw.wfL_iff : ∀ rs : List Rw, Rw.wfL rs = true ↔ ∀ r ∈ rs, r.wf = true
  | [] => by simp [Rw.wfL]
  | r :: rs => by simp [Rw.wfL, Rw.wfL_iff rs]
theorem Rw.wf_parts (r : Rw) (h : r.wf = true) : ∀ s ∈ r.parts, s.wf = true := by
  cases r with
  | «let» c => intro s m; cases m
  | join rs => simp only [Rw.wf, Bool.and_eq_true] at h; exact (Rw.wfL_iff rs).mp h.2
  | right r => intro s m; simp only [Rw.parts, List.mem_singleton] at m; subst m; simpa only [Rw.wf] using h
  | left r => intro s m; simp only [Rw.parts, List.mem_singleton] at m; subst m; simpa only [Rw.wf] using h
  | mix rs => simp only [Rw.wf, Bool.and_eq_true] at h; exact (Rw.wfL_iff rs).mp h.2
theorem Rw.nodes_eq (r : Rw) : r.nodes = 1 + Rw.nodesL r.parts := by
  cases r <;> simp only [Rw.nodes, Rw.parts, Rw.nodesL] <;> omega
theorem Rw.dep_parts (r : Rw) : ∀ s ∈ r.parts, s.dep < r.dep := by
  cases r with
  | «let» c => intro s m; cases m
  | join rs => intro s m; have := Rw.dep_mem (rs := rs) m; simp only [Rw.dep]; omega
  | right r => intro s m; simp only [Rw.parts, List.mem_singleton] at m; subst m; simp only [Rw.dep]; omega
  | left r => intro s m; simp only [Rw.parts, List.mem_singleton] at m; subst m; simp only [Rw.dep]; omega
  | mix rs => intro s m; have := Rw.dep_mem (rs := rs) m; simp only [Rw.dep]; omega
mutual
def Rw.rose : Rw → Rose
  | .let c => .node (Rw.let c).toD []
  | .join rs => .node (Rw.join rs).toD (Rw.roseL rs)
  | .right r => .node (Rw.right r).toD [r.rose]
  | .left r => .node (Rw.left r).toD [r.rose]
  | .mix rs => .node (Rw.mix rs).toD (Rw.roseL rs)
def Rw.roseL : List Rw → List Rose
  | [] => []
  | r :: rs => r.rose :: Rw.roseL rs
end
theorem Rw.roseL_eq : ∀ rs : List Rw, Rw.roseL rs = rs.map Rw.rose
  | [] => rfl
  | r :: rs => by simp only [Rw.roseL, List.map_cons, Rw.roseL_eq rs]
theorem Rw.rose_d (r : Rw) : r.rose.d = r.toD := by cases r <;> simp only [Rw.rose, Rose.d]
theorem Rw.rose_cs (r : Rw) : r.rose.cs = r.parts.map Rw.rose := by
  cases r <;> simp only [Rw.rose, Rose.cs, Rw.parts, Rw.roseL_eq, List.map_nil, List.map_cons]
theorem Rw.rose_map (rs : List Rw) : (rs.map Rw.rose).map Rose.d = rs.map Rw.toD := by
  rw [List.map_map]
  exact List.map_congr_left fun r _ => r.rose_d
mutual
theorem Rw.rose_many : ∀ r : Rw, r.rose.many = r.nodes
  | .let c => by simp only [Rw.rose, Rose.many, Rw.nodes, Rose.manyL]
  | .join rs => by simp only [Rw.rose, Rose.many, Rw.nodes, Rw.roseL_many rs]
  | .right r => by simp only [Rw.rose, Rose.many, Rw.nodes, Rose.manyL, Rw.rose_many r, Nat.add_zero]
  | .left r => by simp only [Rw.rose, Rose.many, Rw.nodes, Rose.manyL, Rw.rose_many r, Nat.add_zero]
  | .mix rs => by simp only [Rw.rose, Rose.many, Rw.nodes, Rw.roseL_many rs]
theorem Rw.roseL_many : ∀ rs : List Rw, Rose.manyL (Rw.roseL rs) = Rw.nodesL rs
  | [] => rfl
  | r :: rs => by simp only [Rw.roseL, Rose.manyL, Rw.nodesL, Rw.rose_many r, Rw.roseL_many rs]
end
/-- things that are rows -/
def okRow (t : Rose) : Prop := ∃ r : Rw, t = r.rose ∧ r.wf = true
theorem her_row : Her okRow := by
  rintro t ⟨r, rfl, h⟩ c m
  rw [r.rose_cs] at m
  obtain ⟨s, ms, rfl⟩ := List.mem_map.mp m
  exact ⟨s, rfl, r.wf_parts h s ms⟩
theorem dw (s : Str) : decide (s = s) = true := decide_eq_true rfl
theorem wds (w : Str) (a b : Str) : (List.any [PyData.str a, PyData.str b] fun y => PyData.eqv y (.str w)) = (decide (a = w) || (decide (b = w) || false)) := by
  simp only [List.any_cons, List.any_nil, eqv_str]
theorem bind_of {W : WR} {sd : SD} {Q : RV → Prop} (P : RV → Prop) (h : ∀ Q' : RV → Prop, (∀ z, P z → Q' z) → W sd Q') (q : ∀ z, P z → Q z) : W sd Q := h Q q
theorem ite3 {c : Prop} {inst : Decidable c} {a b : Prop} (h1 : c → a) (h2 : ¬ c → b) : @ite Prop c inst a b := by
  by_cases h : c
  · rw [if_pos h]; exact h1 h
  · rw [if_neg h]; exact h2 h
theorem wJR : decide (sJ = sR) = false := by decide +kernel
theorem wJL : decide (sJ = sL) = false := by decide +kernel
theorem wJM : decide (sJ = sM) = false := by decide +kernel
theorem wRJ : decide (sR = sJ) = false := by decide +kernel
theorem wRL : decide (sR = sL) = false := by decide +kernel
theorem wRM : decide (sR = sM) = false := by decide +kernel
theorem wLJ : decide (sL = sJ) = false := by decide +kernel
theorem wLR : decide (sL = sR) = false := by decide +kernel
theorem wLM : decide (sL = sM) = false := by decide +kernel
theorem wMJ : decide (sM = sJ) = false := by decide +kernel
theorem wMR : decide (sM = sR) = false := by decide +kernel
theorem wML : decide (sM = sL) = false := by decide +kernel
theorem nodes_sum (r : Rw) : (1 : Int) + (r.parts.map fun s => (s.nodes : Int)).sum = r.nodes := by
  have key : ∀ rs : List Rw, (rs.map fun s => (s.nodes : Int)).sum = (Rw.nodesL rs : Int) := by
    intro rs
    induction rs with
    | nil => rfl
    | cons s rs ih => simp only [List.map_cons, List.sum_cons, ih, Rw.nodesL]; omega
  rw [key, r.nodes_eq]
  omega
theorem Rw.nodes_mem : ∀ {rs : List Rw} {r : Rw}, r ∈ rs → r.nodes ≤ Rw.nodesL rs
  | [], _, m => by cases m
  | s :: rs, r, m => by
    simp only [Rw.nodesL]
    rcases List.mem_cons.mp m with rfl | m
    · omega
    · have := Rw.nodes_mem m
      omega
structure Good (d : PyData) : Prop where
  show_ : okShow d
  sh : SeqAt.shaped d = true
  txt : SeqAt.shaped (.str d.shown) = true
  eq : PyData.eqv d d = true
theorem nq {a : Str} : ¬ ((!decide (a = a)) = true) := by simp
theorem wf_mem {rs : List Rw} (h : Rw.wfL rs = true) {r : Rw} (m : r ∈ rs) : r.wf = true := (Rw.wfL_iff rs).mp h r m
end DL
set_option Elab.async false
set_option linter.all false
set_option maxRecDepth 100000
set_option maxHeartbeats 400000
namespace DL
open PySem PySem.Spec PyProof.Rows L2
variable [Tb]
section
variable {X : Cx} {e a b : Expr} {es : List Expr} {m m1 m2 : Md} {pos p : Pos} {x y z : Str}
/-- x += n, whole numbers -/
def wAugI (i : Nat) (we : WD) : WS := fun E sd => match getS sd i with
  | .va (.int a) => we sd fun d => match d with
    | .int b => E.nx (sd.set i (.va (.int (a + b))))
    | _ => False
  | _ => False
/-- a, b, c = e, f, g -/
def wPar3 (i j l : Nat) (wl : WL) : WS := fun E sd => wl sd fun ds => match ds with
  | [d1, d2, d3] => E.nx (((sd.set i (.va d1)).set j (.va d2)).set l (.va d3))
  | _ => False
def dMax (d : PyData) (Q : RV → Prop) : Prop := match d with
  | .list xs => ∃ ns : List Int, xs = ns.map PyData.int ∧ 0 < ns.length ∧ ∀ m, m ∈ ns → (∀ y, y ∈ ns → y ≤ m) → Q (.va (.int m))
  | _ => False
theorem cd_max (hc : X.calm = true) : CallD X (.builtin "max") .sh (rd1 dMax) where
  ex := ⟨_, cr_max hc, rd1_br fun S O H x d Q hs hO hd q => by
    unfold dMax at q
    split at q
    · obtain ⟨ns, rfl, h0, q⟩ := q
      obtain ⟨a, us, rfl, h1, h2⟩ := hd
      have e := all_ints h2
      subst e
      exact ⟨a, ns, rfl, .inl (.inl (hid_some h1).2), h0, fun m hm hy => q m hm hy _ H (Same.refl H) (.int _)⟩
    · exact q.elim⟩
  mo := rd1_mo fun d Q Q' k q => by
    unfold dMax at q ⊢
    split at q
    · obtain ⟨ns, e, h0, q⟩ := q
      exact ⟨ns, e, h0, fun m a b => k _ (q m a b)⟩
    · exact q.elim
end
theorem qisStrD_str (s : Str) : isStrD (.str s) = true := rfl
theorem qisStrD_tup (s : List PyData) : isStrD (.tuple s) = false := rfl
theorem qisStrD_lst (s : List PyData) : isStrD (.list s) = false := rfl
theorem qisStrD_int (s : Int) : isStrD (.int s) = false := rfl
theorem qisStrD_bl (s : Bool) : isStrD (.bool s) = false := rfl
theorem qisStrD_non  : isStrD .none = false := rfl
theorem qisStrD_dct (s : List (PyData × PyData)) : isStrD (.dict s) = false := rfl
theorem qisTupD_str (s : Str) : isTupD (.str s) = false := rfl
theorem qisTupD_tup (s : List PyData) : isTupD (.tuple s) = true := rfl
theorem qisTupD_lst (s : List PyData) : isTupD (.list s) = false := rfl
theorem qisTupD_int (s : Int) : isTupD (.int s) = false := rfl
theorem qisTupD_bl (s : Bool) : isTupD (.bool s) = false := rfl
theorem qisTupD_non  : isTupD .none = false := rfl
theorem qisTupD_dct (s : List (PyData × PyData)) : isTupD (.dict s) = false := rfl
theorem qisLstD_str (s : Str) : isLstD (.str s) = false := rfl
theorem qisLstD_tup (s : List PyData) : isLstD (.tuple s) = false := rfl
theorem qisLstD_lst (s : List PyData) : isLstD (.list s) = true := rfl
theorem qisLstD_int (s : Int) : isLstD (.int s) = false := rfl
theorem qisLstD_bl (s : Bool) : isLstD (.bool s) = false := rfl
theorem qisLstD_non  : isLstD .none = false := rfl
theorem qisLstD_dct (s : List (PyData × PyData)) : isLstD (.dict s) = false := rfl
theorem qisDctD_str (s : Str) : isDctD (.str s) = false := rfl
theorem qisDctD_tup (s : List PyData) : isDctD (.tuple s) = false := rfl
theorem qisDctD_lst (s : List PyData) : isDctD (.list s) = false := rfl
theorem qisDctD_int (s : Int) : isDctD (.int s) = false := rfl
theorem qisDctD_bl (s : Bool) : isDctD (.bool s) = false := rfl
theorem qisDctD_non  : isDctD .none = false := rfl
theorem qisDctD_dct (s : List (PyData × PyData)) : isDctD (.dict s) = true := rfl
theorem qisBooD_str (s : Str) : isBooD (.str s) = false := rfl
theorem qisBooD_tup (s : List PyData) : isBooD (.tuple s) = false := rfl
theorem qisBooD_lst (s : List PyData) : isBooD (.list s) = false := rfl
theorem qisBooD_int (s : Int) : isBooD (.int s) = false := rfl
theorem qisBooD_bl (s : Bool) : isBooD (.bool s) = true := rfl
theorem qisBooD_non  : isBooD .none = false := rfl
theorem qisBooD_dct (s : List (PyData × PyData)) : isBooD (.dict s) = false := rfl
theorem qisIntD_str (s : Str) : isIntD (.str s) = false := rfl
theorem qisIntD_tup (s : List PyData) : isIntD (.tuple s) = false := rfl
theorem qisIntD_lst (s : List PyData) : isIntD (.list s) = false := rfl
theorem qisIntD_int (s : Int) : isIntD (.int s) = true := rfl
theorem qisIntD_bl (s : Bool) : isIntD (.bool s) = true := rfl
theorem qisIntD_non  : isIntD .none = false := rfl
theorem qisIntD_dct (s : List (PyData × PyData)) : isIntD (.dict s) = false := rfl
theorem qAddI (i j : Int) (Q : RV → Prop) : rdAdd (.int i) (.int j) Q = Q (.va (.int (i + j))) := rfl
theorem qAddS (i j : Str) (Q : RV → Prop) : rdAdd (.str i) (.str j) Q = (i.length + j.length ≤ sizeLine ∧ Q (.va (.str (i ++ j)))) := rfl
theorem qAddT (i j : List PyData) (Q : RV → Prop) : rdAdd (.tuple i) (.tuple j) Q = (i.length + j.length ≤ sizeLine ∧ Q (.va (.tuple (i ++ j)))) := rfl
theorem qAddL (i j : List PyData) (Q : RV → Prop) : rdAdd (.list i) (.list j) Q = (i.length + j.length ≤ sizeLine ∧ Q (.fr (i ++ j))) := rfl
theorem qInt (C : Int → Int → Prop) (g : Int → Int → PyData) (i j : Int) (Q : RV → Prop) : rdInt C g (.int i) (.int j) Q = (C i j ∧ Q (.va (g i j))) := rfl
theorem qSlT (xs : List PyData) (lo hi : Option Int) (Q : RV → Prop) : rdSl (.tuple xs) lo hi Q = Q (.va (.tuple (cutD xs lo hi))) := rfl
theorem qSlL (xs : List PyData) (lo hi : Option Int) (Q : RV → Prop) : rdSl (.list xs) lo hi Q = Q (.fr (cutD xs lo hi)) := rfl
theorem qSlS (z : Str) (lo hi : Option Int) (Q : RV → Prop) : rdSl (.str z) lo hi Q = (z.length ≤ sizeLine ∧ Q (.va (.str (cutS z lo hi)))) := rfl
theorem qEqI (i j : Int) (Q : Bool → Prop) : dEq (.int i) (.int j) Q = Q (decide (i = j)) := rfl
theorem qEqS (i j : Str) (Q : Bool → Prop) : dEq (.str i) (.str j) Q = Q (decide (i = j)) := rfl
theorem qEqB (i j : Bool) (Q : Bool → Prop) : dEq (.bool i) (.bool j) Q = Q (decide (i = j)) := rfl
theorem qEqN (Q : Bool → Prop) : dEq .none .none Q = Q true := rfl
theorem qEqT (i j : List PyData) (Q : Bool → Prop) : dEq (.tuple i) (.tuple j) Q = ((SeqAt.shaped (.tuple i) = true ∧ SeqAt.shaped (.tuple j) = true) ∧ Q (PyData.eqv (.tuple i) (.tuple j))) := rfl
theorem qEqL (i j : List PyData) (Q : Bool → Prop) : dEq (.list i) (.list j) Q = ((SeqAt.shaped (.list i) = true ∧ SeqAt.shaped (.list j) = true) ∧ Q (PyData.eqv (.list i) (.list j))) := rfl
theorem qIxT0 (d : PyData) (ds : List PyData) (Q : RV → Prop) : ixC 0 (.tuple (d :: ds)) Q = Q (.va d) := rfl
theorem qIxT1 (d e : PyData) (ds : List PyData) (Q : RV → Prop) : ixC 1 (.tuple (d :: e :: ds)) Q = Q (.va e) := rfl
theorem qIxT2 (d e f : PyData) (ds : List PyData) (Q : RV → Prop) : ixC 2 (.tuple (d :: e :: f :: ds)) Q = Q (.va f) := rfl
theorem qIxL0 (d : PyData) (ds : List PyData) (Q : RV → Prop) : ixC 0 (.list (d :: ds)) Q = Q (.va d) := rfl
theorem qIxL1 (d e : PyData) (ds : List PyData) (Q : RV → Prop) : ixC 1 (.list (d :: e :: ds)) Q = Q (.va e) := rfl
theorem qLenT (xs : List PyData) (Q : RV → Prop) : dLen (.tuple xs) Q = Q (.va (.int xs.length)) := rfl
theorem qLenL (xs : List PyData) (Q : RV → Prop) : dLen (.list xs) Q = Q (.va (.int xs.length)) := rfl
theorem qLenS (z : Str) (Q : RV → Prop) : dLen (.str z) Q = (z.length ≤ sizeLine ∧ Q (.va (.int z.length))) := rfl
theorem qTupT (xs : List PyData) (Q : RV → Prop) : dTuple (.tuple xs) Q = Q (.va (.tuple xs)) := rfl
theorem qTupL (xs : List PyData) (Q : RV → Prop) : dTuple (.list xs) Q = Q (.va (.tuple xs)) := rfl
theorem qLstT (xs : List PyData) (Q : RV → Prop) : dList (.tuple xs) Q = Q (.fr xs) := rfl
theorem qLstL (xs : List PyData) (Q : RV → Prop) : dList (.list xs) Q = Q (.fr xs) := rfl
theorem qIt (xs : List PyData) (Q : List PyData → Prop) : dItems (.tuple xs) Q = Q xs := rfl
theorem qItL (xs : List PyData) (Q : List PyData → Prop) : dItems (.list xs) Q = Q xs := rfl
theorem qIntI (i : Int) (Q : RV → Prop) : dInt (.int i) Q = Q (.va (.int i)) := rfl
theorem qBl (b : Bool) : truD (.bool b) = some b := rfl
theorem qTrT (xs : List PyData) : truD (.tuple xs) = some (!xs.isEmpty) := rfl
theorem qTrL (xs : List PyData) : truD (.list xs) = some (!xs.isEmpty) := rfl
theorem qTrI (i : Int) : truD (.int i) = some (i != 0) := rfl
theorem qTrN : truD .none = some false := rfl
theorem qNoN : isNon .none = true := rfl
theorem qNoT (xs : List PyData) : isNon (.tuple xs) = false := rfl
theorem qNoL (xs : List PyData) : isNon (.list xs) = false := rfl
theorem qNoI (i : Int) : isNon (.int i) = false := rfl
theorem qNoS (i : Str) : isNon (.str i) = false := rfl
theorem d01 : decide ((0 : Int) < 1) = true := rfl
theorem d0m : decide ((0 : Int) < -1) = false := rfl
theorem dm0 : decide ((-1 : Int) < 0) = true := rfl
theorem d10 : decide ((1 : Int) < 0) = false := rfl
/-- if, by a name -/
def wIfS (t : WB) (w u : WS) : WS := fun E sd => t sd fun b => if b = true then w E sd else u E sd
theorem evs_ifS {X : Cx} {pos : Pos} {c : Expr} {x y : List Stmt} {t : WB} {w u : WS} (hc : EvT X c t) (ha : EvB X x w) (hb : EvB X y u) : EvS X (.If c x y pos) (wIfS t w u) := evs_if hc ha hb
end DL
set_option Elab.async false
set_option linter.all false
set_option maxRecDepth 100000
set_option maxHeartbeats 400000
namespace DL
open PySem PySem.Spec PyProof.Rows L2
variable [Tb]
/-- one step into a row -/
inductive Step : Rw → List Int → Rw → Prop
  | join {rs : List Rw} {r : Rw} (k : Nat) (h : rs[k]? = some r) : Step (.join rs) [(k : Int)] r
  | right {r : Rw} (i : Nat) : Step (.right r) [(i : Int)] r
  | left {r : Rw} (i : Nat) : Step (.left r) [(i : Int)] r
  | mix {rs : List Rw} {r : Rw} (k n : Nat) (h : rs[n % rs.length]? = some r) : Step (.mix rs) [(k : Int), ((n + 1 : Nat) : Int)] r
def Rw.isM : Rw → Bool | .mix _ => true | _ => false
theorem Step.len {r s : Rw} {key : List Int} (h : Step r key s) : key.length = (if r.isM then 2 else 1) := by cases h <;> rfl
theorem Step.dep {r s : Rw} {key : List Int} (h : Step r key s) : s.dep < r.dep := by
  cases h with
  | join k h => have := Rw.dep_mem (List.mem_of_getElem? h); simp only [Rw.dep]; omega
  | right i => simp only [Rw.dep]; omega
  | left i => simp only [Rw.dep]; omega
  | mix k n h => have := Rw.dep_mem (List.mem_of_getElem? h); simp only [Rw.dep]; omega
theorem Step.nodes {r s : Rw} {key : List Int} (h : Step r key s) : s.nodes < r.nodes := by
  cases h with
  | join k h => have := Rw.nodes_mem (List.mem_of_getElem? h); simp only [Rw.nodes]; omega
  | right i => simp only [Rw.nodes]; omega
  | left i => simp only [Rw.nodes]; omega
  | mix k n h => have := Rw.nodes_mem (List.mem_of_getElem? h); simp only [Rw.nodes]; omega
theorem Step.wf {r s : Rw} {key : List Int} (h : Step r key s) (w : r.wf = true) : s.wf = true := by
  cases h with
  | join k h => exact r_wf_mem w (List.mem_of_getElem? h)
  | right i => simpa only [Rw.wf] using w
  | left i => simpa only [Rw.wf] using w
  | mix k n h => exact r_wf_mix w (List.mem_of_getElem? h)
where
  r_wf_mem {rs : List Rw} {r : Rw} (w : (Rw.join rs).wf = true) (m : r ∈ rs) : r.wf = true := by
    simp only [Rw.wf, Bool.and_eq_true] at w; exact wf_mem w.2 m
  r_wf_mix {rs : List Rw} {r : Rw} (w : (Rw.mix rs).wf = true) (m : r ∈ rs) : r.wf = true := by
    simp only [Rw.wf, Bool.and_eq_true] at w; exact wf_mem w.2 m
/-- the way to an address: the steps, with what is gone ahead of each, and the letter there -/
inductive Way : Rw → List Int → Nat → List (Rw × List Int × Nat) → Fin 26 → Prop
  | let (c : Fin 26) (n : Nat) : Way (.let c) [] n [] c
  | step {r s : Rw} {key p : List Int} {n : Nat} {ss : List (Rw × List Int × Nat)} {c : Fin 26} (h : Step r key s) (t : Way s p (n + key.length) ss c) : Way r (key ++ p) n ((r, key, n) :: ss) c
/-- an address -/
inductive Ad : Rw → List Int → Prop
  | let (c : Fin 26) : Ad (.let c) []
  | step {r s : Rw} {key p : List Int} (h : Step r key s) (t : Ad s p) : Ad r (key ++ p)
theorem cut_from {α : Type} (xs : List α) (k : Nat) : cutD xs (some (k : Int)) none = xs.drop k := by
  unfold cutD
  have e1 : HT.sIx xs.length 0 (some (k : Int)) = min k xs.length := by
    show (if (k : Int) < 0 then ((k : Int) + (xs.length : Int)).toNat else min (k : Int).toNat xs.length) = _
    rw [if_neg (by omega), Int.toNat_natCast]
  have e2 : HT.sIx xs.length xs.length none = xs.length := rfl
  rw [e1, e2]
  rcases Nat.le_total k xs.length with h | h
  · rw [Nat.min_eq_left h]
    exact List.take_of_length_le (by rw [List.length_drop]; omega)
  · rw [Nat.min_eq_right h, List.drop_of_length_le (Nat.le_refl _), List.drop_of_length_le h]
    simp
/-- items -/
theorem rdIx_lst {xs : List PyData} {n : Nat} {v : PyData} {Q : RV → Prop} (h : xs[n]? = some v) (q : Q (.va v)) : rdIx (.list xs) (.int (n : Int)) Q := by
  simp only [rdIx, L2.atI_nat h]; exact q
mutual
/-- the first place, or the last one -/
def Rw.ep (s : Bool) : Rw → Option (List Int)
  | .let _ => some []
  | .join rs => if s then (Rw.epL s rs).map ((((rs.length - 1 : Nat) : Int)) :: ·) else (Rw.epH s rs).map ((0 : Int) :: ·)
  | .right r => if s then none else (Rw.ep s r).map ((0 : Int) :: ·)
  | .left r => if s then (Rw.ep s r).map ((0 : Int) :: ·) else none
  | .mix _ => none
def Rw.epH (s : Bool) : List Rw → Option (List Int)
  | [] => none
  | r :: _ => Rw.ep s r
def Rw.epL (s : Bool) : List Rw → Option (List Int)
  | [] => none
  | r :: rs => match rs with
    | [] => Rw.ep s r
    | _ :: _ => Rw.epL s rs
end
theorem Rw.epH_eq (s : Bool) (rs : List Rw) {r : Rw} (h : rs[0]? = some r) : Rw.epH s rs = Rw.ep s r := by
  cases rs with
  | nil => cases h
  | cons a t => cases h; simp only [Rw.epH]
theorem Rw.epL_eq (s : Bool) : ∀ (rs : List Rw) {r : Rw}, rs[rs.length - 1]? = some r → Rw.epL s rs = Rw.ep s r
  | [], _, h => by simp at h
  | [a], r, h => by simp at h; subst h; simp only [Rw.epL]
  | a :: b :: t, r, h => by
    have e : (b :: t)[(b :: t).length - 1]? = some r := by
      simp only [List.length_cons, Nat.add_sub_cancel] at h ⊢
      exact h
    simp only [Rw.epL]
    exact Rw.epL_eq s (b :: t) e
end DL
set_option Elab.async false
set_option linter.all false
set_option maxRecDepth 100000
set_option maxHeartbeats 400000
namespace DL
open PySem PySem.Spec PyProof.Rows L2
variable [Tb]
mutual
/-- the letter at an end -/
def Rw.el (s : Bool) : Rw → Option (_root_.Fin 26)
  | .let c => some c
  | .join rs => if s then Rw.elL s rs else Rw.elH s rs
  | .right r => if s then none else Rw.el s r
  | .left r => if s then Rw.el s r else none
  | .mix _ => none
def Rw.elH (s : Bool) : List Rw → Option (_root_.Fin 26)
  | [] => none
  | r :: _ => Rw.el s r
def Rw.elL (s : Bool) : List Rw → Option (_root_.Fin 26)
  | [] => none
  | r :: rs => match rs with
    | [] => Rw.el s r
    | _ :: _ => Rw.elL s rs
end
theorem Step.det {r s s' : Rw} {key : List Int} (h : Step r key s) (h' : Step r key s') : s = s' := by
  generalize e : key = key' at h'
  cases h with
  | join k h =>
    cases h' with
    | join k' h' =>
      have : k = k' := by have := (List.cons.inj e).1; omega
      subst this
      rw [h] at h'; cases h'; rfl
  | right i => cases h'; rfl
  | left i => cases h'; rfl
  | mix k n h =>
    cases h' with
    | mix k' n' h' =>
      have e2 : k = k' ∧ n = n' := by have h1 := (List.cons.inj e).1; have h2 := (List.cons.inj (List.cons.inj e).2).1; omega
      obtain ⟨rfl, rfl⟩ := e2
      rw [h] at h'; cases h'; rfl
theorem rdIx_all {xs : List PyData} {i : Int} {Q : RV → Prop} (h0 : 0 ≤ i) (h1 : i < xs.length) (h : ∀ v ∈ xs, Q (.va v)) : rdIx (.list xs) (.int i) Q := by
  obtain ⟨n, rfl⟩ := Int.eq_ofNat_of_zero_le h0
  have hn : n < xs.length := by omega
  exact rdIx_lst (List.getElem?_eq_getElem hn) (h _ (List.getElem_mem hn))
/-- numbers that are small -/
def Sm (p : List Int) : Prop := ∀ x ∈ p, 0 ≤ x ∧ x < 64
theorem Sm.app {p q : List Int} (h : Sm p) (h2 : Sm q) : Sm (p ++ q) := fun x m => by
  rcases List.mem_append.mp m with m | m
  · exact h x m
  · exact h2 x m
theorem Sm.nil : Sm [] := fun x m => by cases m
theorem Sm.one {x : Int} (h : 0 ≤ x ∧ x < 64) : Sm [x] := fun y m => by rw [List.mem_singleton.mp m]; exact h
theorem cut_post {α : Type} (key p : List α) : cutD (key ++ p) (some (key.length : Int)) none = p := by rw [cut_from, List.drop_left]
end DL
set_option Elab.async false
set_option linter.all false
set_option maxRecDepth 100000
set_option maxHeartbeats 400000
namespace DL
open PySem PySem.Spec PyProof.Rows L2
variable [Tb]
def smI (i : Int) : Bool := decide (-128 ≤ i ∧ i < 128)
mutual
def pl : PyData → Bool
  | .none => true
  | .bool _ => true
  | .int i => smI i
  | .str s => PyData.strOk s && PyData.strOk (reprText s)
  | .list ds => plL ds
  | .tuple ds => plL ds
  | .dict _ => false
def plL : List PyData → Bool
  | [] => true
  | d :: ds => pl d && plL ds
end
mutual
def wt : PyData → Nat
  | .none => 4
  | .bool _ => 5
  | .int _ => 4
  | .str s => (reprText s).length
  | .list ds => wtL ds + 3
  | .tuple ds => wtL ds + 3
  | .dict _ => 0
def wtL : List PyData → Nat
  | [] => 0
  | d :: ds => wt d + 2 + wtL ds
end
theorem sm_facts : ∀ n : _root_.Fin 256, (PyData.int ((n.val : Int) - 128)).showable = true ∧ (PyData.int ((n.val : Int) - 128)).shown.length ≤ 4 ∧ PyData.strOk (PyData.int ((n.val : Int) - 128)).shown = true := by decide +kernel
theorem sm_int {i : Int} (h : smI i = true) : (PyData.int i).showable = true ∧ (PyData.int i).shown.length ≤ 4 ∧ PyData.strOk (PyData.int i).shown = true := by
  have h := of_decide_eq_true h
  have e : i = (((i + 128).toNat : Nat) : Int) - 128 := by omega
  have := sm_facts ⟨(i + 128).toNat, by omega⟩
  rw [e]
  exact this
theorem tx_bool : ∀ b : Bool, (PyData.bool b).shown.length ≤ 5 ∧ PyData.strOk (PyData.bool b).shown = true := by decide +kernel
mutual
theorem pl_facts : ∀ d : PyData, pl d = true → d.showable = true ∧ d.canLay0 = true ∧ d.shown.length ≤ wt d ∧ PyData.strOk d.shown = true ∧ PyData.eqv d d = true
  | .none, _ => ⟨rfl, rfl, by decide +kernel, ok_shownN, eqv_non⟩
  | .bool b, _ => ⟨rfl, rfl, (tx_bool b).1, (tx_bool b).2, by simp [PyData.eqv]⟩
  | .int i, h => by
    simp only [pl] at h
    have := sm_int h
    exact ⟨this.1, rfl, this.2.1, this.2.2, by simp [PyData.eqv]⟩
  | .str s, h => by
    simp only [pl, Bool.and_eq_true] at h
    exact ⟨rfl, h.1, Nat.le_refl _, h.2, eqv_str_self s⟩
  | .list ds, h => by
    simp only [pl] at h
    have t := plL_facts ds h
    have hl := list_len (PyData.shownAll ds)
    simp only [PyData.showable, PyData.canLay0, PyData.shown, wt, PyData.eqv]
    exact ⟨t.1, t.2.1, by omega, ok_lst t.2.2.2.1, t.2.2.2.2⟩
  | .tuple ds, h => by
    simp only [pl] at h
    have t := plL_facts ds h
    have hl := tup_len (PyData.shownAll ds)
    simp only [PyData.showable, PyData.canLay0, PyData.shown, wt, PyData.eqv]
    exact ⟨t.1, t.2.1, by omega, ok_tup t.2.2.2.1, t.2.2.2.2⟩
  | .dict _, h => by simp [pl] at h
theorem plL_facts : ∀ ds : List PyData, plL ds = true → PyData.showableAll ds = true ∧ PyData.canLayAll0 ds = true ∧ sumLen (PyData.shownAll ds) ≤ wtL ds ∧ okAll (PyData.shownAll ds) ∧ PyData.eqvAll ds ds = true
  | [], _ => ⟨rfl, rfl, Nat.le_refl _, trivial, by simp [PyData.eqvAll]⟩
  | d :: ds, h => by
    simp only [plL, Bool.and_eq_true] at h
    have h1 := pl_facts d h.1
    have t := plL_facts ds h.2
    simp only [PyData.showableAll, PyData.canLayAll0, PyData.shownAll, sumLen, wtL, okAll, PyData.eqvAll, h1.1, t.1, h1.2.1, t.2.1, h1.2.2.2.2, t.2.2.2.2, Bool.and_self, true_and, and_true]
    exact ⟨by have := h1.2.2.1; have := t.2.2.1; omega, h1.2.2.2.1, t.2.2.2.1⟩
end
theorem good_pl {d : PyData} (h : pl d = true) (hd : d.depth ≤ 64) (hw : wt d ≤ 10000000) : Good d := by
  have t := pl_facts d h
  have e := sizeLine_eq
  have s : SeqAt.shaped d = true := by
    unfold SeqAt.shaped
    rw [t.2.1, Bool.true_and]
    exact decide_eq_true hd
  exact ⟨⟨⟨t.1, s⟩, by have := t.2.2.1; omega⟩, s, sh_str t.2.2.2.1, t.2.2.2.2⟩
end DL
set_option Elab.async false
set_option linter.all false
set_option maxRecDepth 100000
set_option maxHeartbeats 400000
namespace DL
open PySem PySem.Spec PyProof.Rows L2
end DL
set_option Elab.async false
set_option linter.all false
set_option maxRecDepth 100000
set_option maxHeartbeats 4000000
namespace DL
open PySem PySem.Spec PyProof.Rows L2
abbrev eTab : Obj := { cls := .none, data := .fields #[] }
/-- what the law is asked: some ints, the tables there, True -/
def spLaw [Tb] (K : PySem.W.Frag) : Sp := fun vs H Q _ => ∃ (a : Addr) (ns : List Int), vs = [.ref a] ∧ SqL K H a (ns.map V.int) ∧ ns.length ≤ 63 ∧ (∀ P ∈ (Tb.Ts : List Addr), GxR.TabG H P) ∧ ∀ H', Q (.bl true) H'
theorem tabG_new {H : Hp} {P : Addr} (h : H P = some (.tbl #[])) : GxR.TabG H P := ⟨#[], h, by first | exact .nil | exact True.intro | simp [TriplesOk]⟩
structure TabsAt (K : PySem.W.Frag) (h : Heap) (cs : List (Addr × Addr)) : Prop where
  emp : ∀ p ∈ cs, h.get? p.2 = some eTab
  out : ∀ p ∈ cs, K.lookup p.2 = none
  hd : ∀ p ∈ cs, PySem.W.CodeHd h p.1 p.2
theorem lawT_call {P : Program} {w : World} {K : PySem.W.Frag} {mg mb : Str → Option Value} {k : Nat} {fa a : Addr} {cs : List (Addr × Addr)} {fd : FuncData} {x : Str} {sp : Sp} {s₁ : Shared} {vs : List Value} {ns : List Int}
    (KX : K.In s₁.heap) (gl : s₁.heap.Ns mainGlobals mg) (bl : s₁.heap.Ns builtinsNs mb) (boot : ∀ x : Str, x ≠ "__name__" → mb x = bootBuiltins x) (lim : s₁.heap.NoLimit) (ng : s₁.gens = #[]) (T : TabsAt K s₁.heap cs)
    (mn : ∃ (bm : Addr) (ob : Obj), mg "__builtins__" = some (.ref bm) ∧ bm ≠ builtinsNs ∧ s₁.heap.get? bm = some ob ∧ ob.cls = .type "module" ∧ ob.dict = some builtinsNs ∧ ob.data = .plain)
    (here : s₁.heap.get? a = some { cls := .type "list", data := .seq vs.toArray }) (ia : IntsAre vs ns) (hl : ns.length ≤ sizeLine) (hr : RmG k callerA)
    (F : ∀ base : Heap, K.In base → base.Ns mainGlobals mg → (∀ p ∈ cs, GxR.TabB base mg p.1 p.2) → FnG P w K mg base CX0 k fa fd [x] sp) (bind : ∀ (s : Shared) (u : Value), BindsTo s fd ⟨[u], []⟩ [(x, u)])
    (ask : ∀ H : Hp, (∀ p ∈ cs, H p.2 = some (.tbl #[])) → SqL K H a (ns.map V.int) → sp [.ref a] H (fun v _ => v = .bl true) fun _ _ _ => False) :
    codeAny (model P w) callerA (.call (.ref fa) ⟨[.ref a], []⟩) (fun r s' => r = .ok (.ret (.bool true)) ∧ OldK s₁.heap s'.heap ∧ s'.os = s₁.os ∧ AllBare s'.gens) s₁ := by
  have rv : Vals (ns.map V.int) vs := vals_ints ia
  have lv := ia.length
  -- a place in the abstract heap holds nothing, an empty table, or the script
  suffices core : ∃ H : Hp, (∀ p ∈ cs, H p.2 = some (.tbl #[])) ∧ SqL K H a (ns.map V.int) ∧ HOk P w H s₁.heap ∧
      (∀ b u, H b = some u → (∃ p ∈ cs, b = p.2 ∧ u = .tbl #[]) ∨ (b = a ∧ K.lookup a = none ∧ ∃ o xs, u = .frz o (.lst xs))) by
    obtain ⟨H, hT, hS, hok, hA⟩ := core
    -- what stands there and is no list and no empty table is untouched
    have other : ∀ {b : Addr} {o : Obj}, s₁.heap.get? b = some o → o ≠ eTab → (∀ xs n, o.data ≠ .seq xs n) → H b = none := fun {b o} e n1 n2 => by
      cases q : H b with
      | none => rfl
      | some u =>
        rcases hA b u q with ⟨p, m, rfl, _⟩ | ⟨rfl, _, _⟩
        · rw [T.emp p m] at e; exact (n1 (Option.some.inj e).symm).elim
        · rw [here] at e; cases e; exact (n2 _ _ rfl).elim
    have kept : ∀ {b : Addr} {o : Obj}, s₁.heap.get? b = some o → H b = none → (hidT s₁.heap H).get? b = some o := hidT_get
    have dicts : ∀ {b : Addr} {o : Obj} {es : Array DictEntry} {ep : Nat}, s₁.heap.get? b = some o → o.data = .dict es ep → H b = none := fun {b o es ep} e d =>
      other e (fun z => by rw [z] at d; cases d) (fun xs n z => by rw [d] at z; cases z)
    have names : ∀ {b : Addr} {m : Str → Option Value}, s₁.heap.Ns b m → (hidT s₁.heap H).Ns b m := by
      rintro b m ⟨o, es, ep, e, d, r⟩
      exact ⟨o, es, ep, kept e (dicts e d), d, r⟩
    have inK : K.In (hidT s₁.heap H) := fun b o e => by
      refine kept (KX b o e) ?_
      cases q : H b with
      | none => rfl
      | some u =>
        rcases hA b u q with ⟨p, m, rfl, _⟩ | ⟨rfl, z, _⟩
        · rw [T.out p m] at e; cases e
        · rw [z] at e; cases e
    have tb : ∀ p ∈ cs, GxR.TabB (hidT s₁.heap H) mg p.1 p.2 := fun p m => by
      refine ⟨?_, ?_, fun z => ?_⟩
      · obtain ⟨o, us, f1, f2, f3, f4, f5, f6, f7, g1, g2, g3, g4, g5, g6, g7, g8, g9, g10⟩ := T.hd p m
        exact ⟨o, us, f1, f2, f3, f4, f5, f6, f7, kept g1 (other g1 (fun z => by rw [z] at g2; cases g2) fun xs n z => by rw [g3] at z; cases z), g2, g3, g4, g5, g6, g7, g8, g9, g10⟩
      · obtain ⟨bm, ob, b1, b2, b3, b4, b5, b6⟩ := mn
        refine ⟨bm, ob, b1, b2, fun z => ?_, fun z => ?_, kept b3 (other b3 (fun z => by rw [z] at b6; cases b6) fun xs n z => by rw [b6] at z; cases z), b4, b5, b6⟩
        · obtain ⟨o, es, ep, e, hd, _⟩ := gl
          rw [← z, b3] at e
          cases e
          rw [b6] at hd; cases hd
        · have := T.emp p m
          rw [← z, b3] at this
          cases this
          cases b6
      · obtain ⟨o, es, ep, e, hd, _⟩ := gl
        rw [z, T.emp p m] at e
        cases e
        cases hd
    obtain ⟨mc, l1, l2⟩ := lim
    have e0 : Env0 P w K mg (hidT s₁.heap H) callerA [] s₁ H :=
      ⟨rfl, ⟨inK, names gl, ⟨mb, names bl, boot⟩, mc, names l1, l2⟩, fun b o e => of_hidT e, Nat.le_of_eq (hidT_size _ _), trivial, fun b m => (by cases m), hok, .of_eq ng⟩
    apply codeAny_mono ((F _ inK (names gl) tb).run callerA [] s₁ H ⟨[.ref a], []⟩ [.ref a] [.ref a] _ _ hr e0 (bind s₁ (.ref a)) (.cons rfl .nil) (ask H hT hS))
    intro r s' h
    match r, h with
    | .error _, h => exact h.elim
    | .ok .next, h => exact h.elim
    | .ok .brk, h => exact h.elim
    | .ok .cont, h => exact h.elim
    | .ok (.ret u), ⟨v, H', os, bare, un, hok', r', q⟩ =>
      have q' : v = .bl true := q
      subst q'
      cases r'
      -- each old thing: as it was, or a table that grew
      have each : ∀ b o, s₁.heap.get? b = some o → s'.heap.get? b = some o ∨ ∃ p ∈ cs, b = p.2 ∧ ∃ more : Array Value, s'.heap.get? b = some { cls := .none, data := .fields more } := fun b o e => by
        cases q : H b with
        | none => exact .inl (un.keep b o e q (fun z => by cases z) (fun z => by cases z))
        | some u =>
          rcases hA b u q with ⟨p, m, rfl, rfl⟩ | ⟨rfl, _, ob, xs, rfl⟩
          · obtain ⟨more, z⟩ := un.tbls p.2 #[] q
            exact .inr ⟨p, m, rfl, _, hok' p.2 _ z⟩
          · obtain ⟨e1, _⟩ := hok b _ q
            obtain ⟨e2, _⟩ := hok' b _ (un.frzs b ob _ q)
            rw [e] at e1
            cases e1
            exact .inl e2
      refine ⟨rfl, ⟨fun b o e => ?_, fun b o e => ?_⟩, os, bare⟩
      · rcases each b o e with z | ⟨p, m, rfl, more, z⟩
        · exact .inl z
        · rw [T.emp p m] at e
          cases e
          exact .inr (.inl ⟨((T.hd p m).tab (T.emp p m)).isCodeTable, rfl, #[], more, rfl, by rw [Array.empty_append]; exact z⟩)
      · rcases each b o e with z | ⟨p, m, rfl, more, z⟩
        · exact ⟨o, z⟩
        · exact ⟨_, z⟩
  have aT : ∀ p ∈ cs, p.2 ≠ a := fun p m z => by
    have := T.emp p m
    rw [z, here] at this
    cases this
  have isT : ∀ b, (∃ p ∈ cs, b = p.2) → s₁.heap.get? b = some eTab := fun b ⟨p, m, z⟩ => by rw [z]; exact T.emp p m
  cases hk : K.lookup a with
  | some o =>
    have e := KX a o hk
    rw [here] at e
    cases e
    classical
    refine ⟨fun b => if ∃ p ∈ cs, b = p.2 then some (.tbl #[]) else none, fun p m => if_pos ⟨p, m, rfl⟩, .inr ⟨_, vs.toArray, _, hk, rfl, rfl, rfl, by rw [List.size_toArray, lv]; exact hl, by simpa using rv⟩, fun b u z => ?_, fun b u z => ?_⟩
    · by_cases e : ∃ p ∈ cs, b = p.2
      · have z' := (if_pos e).symm.trans z
        cases z'
        exact isT b e
      · have z' := (if_neg e).symm.trans z
        cases z'
    · by_cases e : ∃ p ∈ cs, b = p.2
      · have z' := (if_pos e).symm.trans z
        cases z'
        obtain ⟨p, m, z⟩ := e
        exact .inl ⟨p, m, z, rfl⟩
      · have z' := (if_neg e).symm.trans z
        cases z'
  | none =>
    classical
    refine ⟨fun b => if ∃ p ∈ cs, b = p.2 then some (.tbl #[]) else if b = a then some (.frz { cls := .type "list", data := .seq vs.toArray } (.lst (ns.map V.int))) else none, fun p m => if_pos ⟨p, m, rfl⟩, .inl (.inr ⟨_, (if_neg fun ⟨p, m, z⟩ => aT p m z.symm).trans (if_pos rfl)⟩), fun b u z => ?_, fun b u z => ?_⟩
    · by_cases e : ∃ p ∈ cs, b = p.2
      · have z' := (if_pos e).symm.trans z
        cases z'
        exact isT b e
      · have z1 := (if_neg e).symm.trans z
        by_cases e2 : b = a
        · have z' := (if_pos e2).symm.trans z1
          cases z'
          subst e2
          exact ⟨here, by rw [List.length_map]; exact hl, vs, _, rv, here⟩
        · have z' := (if_neg e2).symm.trans z1
          cases z'
    · by_cases e : ∃ p ∈ cs, b = p.2
      · have z' := (if_pos e).symm.trans z
        cases z'
        obtain ⟨p, m, z⟩ := e
        exact .inl ⟨p, m, z, rfl⟩
      · have z1 := (if_neg e).symm.trans z
        by_cases e2 : b = a
        · have z' := (if_pos e2).symm.trans z1
          cases z'
          exact .inr ⟨e2, rfl, _, _, rfl⟩
        · have z' := (if_neg e2).symm.trans z1
          cases z'
/-- the defs' own tables at the head: empty -/
def OwnT (q : Program) (mg : Str → Option Value) (h : Heap) : Prop := ∀ nm : Str, ((recsOf q).any fun e => e.name == nm) = true →
  ∃ (f c P : Addr) (o : Obj) (fd : FuncData), mg nm = some (.ref f) ∧ h.get? f = some o ∧ o.data = .func fd ∧ fd.code = .ref c ∧ PySem.W.CodeHd h c P ∧ h.get? P = some eTab
/-- the goal that the head leaves -/
theorem walkT {l : PySem.W.OpenLaw} {k : Nat} {q : Program} {loose : List Str} {XP : (Str → Option Value) → Heap → Prop} {YP : World → Heap → Prop} {d : DefRec} {K : Params → PySem.W.Frag}
    (hn : l.most = some 63) (hdf : d.params.defaults = []) (hr : RmG k callerA) (hY : ∀ (w : World) (h : Heap), YP w h → (K w.params).In h)
    (F : ∀ (w : World) (mg : Str → Option Value) (fa : Addr) (h : Heap), (K w.params).In h → h.Ns mainGlobals mg → mg d.name = some (.ref fa) → OwnT q mg h →
      ∃ (cs : List (Addr × Addr)) (fd : FuncData), TabsAt (K w.params) h cs ∧ (∀ (s : Shared) (u : Value), BindsTo s fd ⟨[u], []⟩ [("_law_script", u)]) ∧
        ∀ base : Heap, (K w.params).In base → base.Ns mainGlobals mg → (∀ p ∈ cs, GxR.TabB base mg p.1 p.2) → FnG l.prog w (K w.params) mg base CX0 k fa fd ["_law_script"] (@spLaw ⟨cs.map (·.2)⟩ (K w.params))) :
    PySem.W.WalkO q loose XP YP l.row.toRowW d [] (fun f vs => PySem.call f vs) := by
  apply Att.attach_call hn hdf
  intro w s₀ s₁ mg mb fa o pm cd doc a vs ns G Y ho hd hcd hmg hobj hints hlen hg
  have inK := hY w _ Y
  have own : OwnT q mg s₁.heap := fun nm hnm => by
    obtain ⟨dL, m, e⟩ := List.any_eq_true.mp hnm
    have e : dL.name = nm := beq_iff_eq.mp e
    obtain ⟨f, o', fd', c, P, h1, h2, h3, h4, h5, h6⟩ := G.T.tab dL m
    rw [e] at h1
    exact ⟨f, c, P, o', fd', h1, h2, h3, h4, PySem.W.CodeHd.of h5 h6, h6.2⟩
  obtain ⟨cs, fd, T, hb, hF⟩ := F w mg fa _ inK G.T.g hmg own
  refine lawT_call inK G.T.g G.T.b G.T.builtins G.T.nolimit hg T G.T.bmain hobj hints (Nat.le_trans hlen (by decide)) hr hF hb fun H hT hS => ?_
  refine ⟨a, ns, rfl, hS, hlen, fun P m => ?_, fun _ => rfl⟩
  obtain ⟨p, mp, rfl⟩ := List.mem_map.mp m
  exact tabG_new (hT p mp)
end DL
namespace DL
open PySem PySem.Spec PyProof.Rows L2
/-- a def with a table of code objects -/
structure GenT [Tb] (mg : Str → Option Value) (base : Heap) (fd : FuncData) (c P : Addr) : Prop where
  hc : fd.code = .ref c
  tb : GxR.TabB base mg c P
  mem : P ∈ (Tb.Ts : List Addr)
end DL
set_option Elab.async false
set_option linter.all false
set_option maxRecDepth 100000
set_option maxHeartbeats 4000000
namespace DL
open PySem PySem.Spec PyProof.Rows L2
abbrev Kept := Addr → Obj → Prop
def KIn (B : Kept) (h : Heap) : Prop := ∀ b o, B b o → h.get? b = some o
theorem KIn.go {B : Kept} {s s1 : Shared} (k : KIn B s.heap) (a : Keeps s s1) : KIn B s1.heap := by
  obtain ⟨h1, t1, rfl, k1⟩ := a
  exact fun b o e => k1 b o (k b o e)
end DL
set_option Elab.async false
set_option linter.all false
set_option maxRecDepth 100000
set_option maxHeartbeats 4000000
namespace DL
open PySem PySem.Spec PyProof.Rows L2
end DL
set_option Elab.async false
set_option linter.all false
set_option maxRecDepth 100000
set_option maxHeartbeats 4000000
namespace DL
open PySem PySem.Spec PyProof.Rows L2
variable [Tb]
theorem SrcOk.sub {H : Hp} {S : List Addr} (h : SrcOk H S) : ∀ P ∈ (Tb.Ts : List Addr), P ∈ S := fun P m => by
  rcases h.1 with e | ⟨a, c, e, _⟩
  · rw [e]; exact m
  · rw [e]; exact List.mem_cons_of_mem _ (List.mem_cons_of_mem _ m)
end DL
set_option Elab.async false
set_option linter.all false
set_option maxRecDepth 100000
set_option maxHeartbeats 4000000
namespace DL
open PySem PySem.Spec PyProof.Rows L2
variable [Tb]
section
variable {X : Cx} {e a b c0 tg iter : Expr} {body : List Stmt} {pos p apos tpos : Pos} {w : WD} {wl : WL} {g : WG} {wb : WS} {is : List Nat} {elts : List Expr} {kk : Nat}
/-- an iterator that may lay new things -/
def ItNew (K : PySem.W.Frag) (J : It) (ds : List PyData) (O : List Addr) (H : Hp) : Prop :=
  (∀ i d, ds[i]? = some d → J.go i H ∧ ∀ x H3, J.yld i H x H3 → Same H H3 ∧ ((∀ a ∈ O, H a ≠ none) → Dx K (hid O H3) x d)) ∧ ∀ i, ds.length ≤ i → J.stop i H
theorem ItOk.new {K : PySem.W.Frag} {J : It} {ds : List PyData} {O : List Addr} {H : Hp} (h : ItOk K J ds O H) : ItNew K J ds O H :=
  ⟨fun i d e => ⟨(h.1 i d e).1, fun x H3 y => by obtain ⟨rfl, k⟩ := (h.1 i d e).2 x H3 y; exact ⟨Same.refl _, fun _ => k⟩⟩, h.2⟩
end
end DL
set_option Elab.async false
set_option linter.all false
set_option maxRecDepth 100000
set_option maxHeartbeats 400000
namespace DL
open PySem PySem.Spec PyProof.Rows L2
variable [Tb]
abbrev bitsI (k : Int) : Nat := Builtin.Int.intBits k
/-- whether numbers tell a part, or a copy -/
def tellB (r : Rw) (ns : List Int) : Bool := match ns with
  | [] => false
  | k :: rest => if k < 0 then false else match r with
    | .mix _ => (match rest with
      | [n] => decide (k % 2 = 1) && decide ((bitsI k : Int) ≤ n)
      | _ => false)
    | .join rs => decide (k < (rs.length : Int))
    | _ => true
/-- numbers such as are drawn -/
def skey : Rw → List Int → Bool
  | .mix _, ns => (match ns with
    | [k, n] => decide (0 ≤ k) && (decide (k % 2 = 1) && (decide (k < 64) && (decide ((bitsI k : Int) ≤ n) && decide (n ≤ 6))))
    | _ => false)
  | _, _ => true
theorem skey_tell {r s : Rw} {key : List Int} (h : Step r key s) (k : skey r key = true) : tellB r key = true := by
  cases h with
  | @join rs _ i h =>
    have := (List.getElem?_eq_some_iff.mp h).1
    simp only [tellB]
    rw [if_neg (by omega)]
    exact decide_eq_true (by omega)
  | right i => simp only [tellB]; rw [if_neg (by omega)]
  | left i => simp only [tellB]; rw [if_neg (by omega)]
  | mix i n h =>
    simp only [skey, Bool.and_eq_true, decide_eq_true_eq] at k
    simp only [tellB]
    rw [if_neg (by omega), decide_eq_true k.2.1, decide_eq_true k.2.2.2.1]
    rfl
theorem Ad.len {r : Rw} {p : List Int} (h : Ad r p) : p.length ≤ 2 * r.dep := by
  induction h with
  | «let» c => simp
  | step st t ih =>
    have h1 := st.dep
    have h2 := st.len
    rw [List.length_append, h2]
    split <;> omega
theorem Way.inv {r : Rw} {p : List Int} {n : Nat} {ss : List (Rw × List Int × Nat)} {c : _root_.Fin 26} (h : Way r p n ss c) : (ss = [] ∧ p = [] ∧ r = .let c) ∨ ∃ (key p' : List Int) (s : Rw) (ss' : List (Rw × List Int × Nat)), p = key ++ p' ∧ ss = (r, key, n) :: ss' ∧ Step r key s ∧ Way s p' (n + key.length) ss' c := by
  cases h with
  | «let» _ _ => exact .inl ⟨rfl, rfl, rfl⟩
  | step st t => exact .inr ⟨_, _, _, _, rfl, rfl, st, t⟩
theorem skey_not {r : Rw} (h : r.isM = false) (key : List Int) : skey r key = true := by cases r <;> first | rfl | cases h
end DL
set_option Elab.async false
set_option linter.all false
set_option maxRecDepth 100000
set_option maxHeartbeats 400000
namespace DL
open PySem PySem.Spec PyProof.Rows L2
variable [Tb]
def Rw.isLf : Rw → Bool | .left _ => true | _ => false
/-- the number beside k, on the side s: false behind, true ahead -/
def bes (s : Bool) (r : Rw) (k : Int) : Int := if r.isLf = s then k + 1 else k - 1
def partR : Rw → Int → Rw
  | .join rs, i => rs.getD i.toNat (.let 0)
  | .right r, _ => r
  | .left r, _ => r
  | r, _ => r
/-- one level: whether it is decided there, and what -/
def stepF (s : Bool) (r : Rw) : List Int → Option (Option (List Int))
  | [] => none
  | k :: _ => if r.isM then some none else if tellB r [bes s r k] = true then some (((partR r (bes s r k)).ep s).map (bes s r k :: ·)) else none
def combF (s : Bool) (r : Rw) (key : List Int) : Option (Option (List Int)) → Option (Option (List Int))
  | some (some q) => some (some (key ++ q))
  | some none => some none
  | none => stepF s r key
def nbF (s : Bool) : List (Rw × List Int × Nat) → Option (Option (List Int))
  | [] => none
  | (r, key, _) :: ss => combF s r key (nbF s ss)
/-- the place next to a place -/
def nbP (s : Bool) (ss : List (Rw × List Int × Nat)) : Option (List Int) := (nbF s ss).join
theorem tell_step {s : Bool} {r t : Rw} {k : Int} (st : Step r [k] t) (hm : r.isM = false) (h : tellB r [bes s r k] = true) : Step r [bes s r k] (partR r (bes s r k)) := by
  have h0 : ¬ bes s r k < 0 := fun z => by simp only [tellB, if_pos z] at h; cases h
  simp only [tellB, if_neg h0] at h
  generalize bes s r k = b at *
  obtain ⟨n, rfl⟩ := Int.eq_ofNat_of_zero_le (Int.not_lt.mp h0)
  generalize e : [k] = key at st
  cases st with
  | @join rs _ i hi =>
    have hl : n < rs.length := by have := of_decide_eq_true h; omega
    refine .join n ?_
    show rs[n]? = some (rs.getD n (.let 0))
    rw [List.getD_eq_getElem?_getD, List.getElem?_eq_getElem hl]; rfl
  | right i => exact .right n
  | left i => exact .left n
  | mix _ _ _ => cases hm
theorem step_one {r t : Rw} {key : List Int} (st : Step r key t) (hm : r.isM = false) : ∃ k : Nat, key = [(k : Int)] := by
  cases st with
  | join k h => exact ⟨k, rfl⟩
  | right i => exact ⟨i, rfl⟩
  | left i => exact ⟨i, rfl⟩
  | mix _ _ _ => cases hm
theorem tell_of {r t : Rw} {k : Int} (st : Step r [k] t) (hm : r.isM = false) : tellB r [k] = true := skey_tell st (skey_not hm _)
theorem part_of {r t : Rw} {k : Int} (st : Step r [k] t) (hm : r.isM = false) : partR r k = t := by
  generalize e : [k] = key at st
  cases st with
  | @join rs _ i hi =>
    have : k = (i : Int) := (List.cons.inj e).1
    subst this
    show rs.getD (i : Int).toNat (.let 0) = _
    rw [Int.toNat_natCast, List.getD_eq_getElem?_getD, hi]; rfl
  | right i => rfl
  | left i => rfl
  | mix _ _ _ => cases hm
/-- nothing is decided exactly at the end on that side -/
theorem nbF_none (s : Bool) {r : Rw} {p : List Int} {n : Nat} {ss : List (Rw × List Int × Nat)} {c : _root_.Fin 26} (w : Way r p n ss c) : nbF s ss = none ↔ r.ep (!s) = some p := by
  induction w with
  | «let» c n => simp [nbF, Rw.ep]
  | @step r t key p n ss c st w ih =>
    simp only [nbF]
    have hc : combF s r key (nbF s ss) = none ↔ nbF s ss = none ∧ stepF s r key = none := by
      cases h : nbF s ss with
      | none => simp [combF]
      | some o => cases o <;> simp [combF]
    rw [hc, ih]
    by_cases hm : r.isM = true
    · obtain ⟨k, rest, e⟩ : ∃ k rest, key = k :: rest := by cases st <;> exact ⟨_, _, rfl⟩
      subst e
      have e2 : r.ep (!s) = none := by cases r <;> first | rfl | cases hm
      simp only [stepF, hm, if_true, e2]
      simp
    · have hm : r.isM = false := by simpa using hm
      obtain ⟨k, rfl⟩ := step_one st hm
      simp only [stepF, hm, Bool.false_eq_true, if_false]
      have hk : tellB r [bes s r (k : Int)] = false ↔ (match r with | .join rs => (if s = true then k = 0 else k + 1 = rs.length) | .left _ => s = false ∧ k = 0 | .right _ => s = true ∧ k = 0 | _ => False) := by
        cases st with
        | @join rs _ _ hi =>
          have hl := (List.getElem?_eq_some_iff.mp hi).1
          cases s <;> simp [tellB, bes, Rw.isLf] <;> omega
        | right i => cases s <;> simp [tellB, bes, Rw.isLf] <;> omega
        | left i => cases s <;> simp [tellB, bes, Rw.isLf] <;> omega
      have hif : (if tellB r [bes s r (k : Int)] = true then some (((partR r (bes s r (k : Int))).ep s).map (bes s r (k : Int) :: ·)) else none) = none ↔ tellB r [bes s r (k : Int)] = false := by
        cases tellB r [bes s r (k : Int)] <;> simp
      rw [hif, hk]
      cases st with
      | @join rs _ _ hi =>
        have hl := (List.getElem?_eq_some_iff.mp hi).1
        cases s with
        | false =>
          simp only [Rw.ep, Bool.not_false, if_true, Bool.false_eq_true, if_false, List.singleton_append]
          by_cases e : k + 1 = rs.length
          · have e2 : rs[rs.length - 1]? = some t := by rw [← e]; exact hi
            rw [Rw.epL_eq true rs e2]
            have e3 : ((rs.length - 1 : Nat) : Int) = (k : Int) := by omega
            rw [e3]
            cases t.ep true <;> simp [e]
          · simp only [e, and_false, false_iff]
            cases h : Rw.epL true rs with
            | none => simp
            | some x => simp; omega
        | true =>
          simp only [Rw.ep, Bool.not_true, if_true, Bool.false_eq_true, if_false, List.singleton_append]
          by_cases e : k = 0
          · subst e
            rw [Rw.epH_eq false rs hi]
            cases t.ep false <;> simp
          · simp only [e, and_false, false_iff]
            cases h : Rw.epH false rs with
            | none => simp
            | some x => simp; omega
      | right i =>
        cases s with
        | false => simp [Rw.ep]
        | true =>
          simp only [Rw.ep, Bool.not_true, Bool.false_eq_true, if_false, List.singleton_append]
          cases t.ep false <;> simp [eq_comm, and_comm]
      | left i =>
        cases s with
        | true => simp [Rw.ep]
        | false =>
          simp only [Rw.ep, Bool.not_false, if_true, List.singleton_append]
          cases t.ep true <;> simp [eq_comm, and_comm]
end DL
namespace DL
open PySem PySem.Spec PyProof.Rows L2
variable [Tb]
/-- numbers stay small -/
def Bd (M : Int) (p : List Int) : Prop := ∀ x ∈ p, 0 ≤ x ∧ x < M
theorem Bd.mono {M N : Int} {p : List Int} (h : Bd M p) (l : M ≤ N) : Bd N p := fun x m => ⟨(h x m).1, Int.lt_of_lt_of_le (h x m).2 l⟩
end DL
namespace DL
open PySem PySem.Spec PyProof.Rows L2
end DL
namespace DL
open PySem PySem.Spec PyProof.Rows L2
end DL
namespace DL
open PySem PySem.Spec PyProof.Rows L2
variable [Tb]
theorem Way.len {r : Rw} {p : List Int} {n : Nat} {ss : List (Rw × List Int × Nat)} {c : _root_.Fin 26} (h : Way r p n ss c) : ss.length ≤ r.dep := by
  induction h with
  | «let» c n => simp
  | step st t ih => have := st.dep; simp only [List.length_cons]; omega
end DL
namespace DL
open PySem PySem.Spec PyProof.Rows L2
end DL
namespace DL
open PySem PySem.Spec PyProof.Rows L2
end DL
set_option Elab.async false
set_option linter.all false
set_option maxRecDepth 100000
set_option maxHeartbeats 400000
namespace DL
open PySem PySem.Spec PyProof.Rows L2
variable [Tb]
abbrev SmB (p : List Int) : Prop := Bd 128 p
theorem SmB.of {p : List Int} (h : Sm p) : SmB p := fun x m => ⟨(h x m).1, by have := (h x m).2; omega⟩
/-- where two addresses part, with what is there -/
inductive PX : Rw → List Int → List Int → Rw → List Int → List Int → Rw → Rw → List Int → List Int → Prop
  | here {r s s' : Rw} {k k' p2 q2 : List Int} (h : Step r k s) (h' : Step r k' s') (ne : k ≠ k') : PX r (k ++ p2) (k' ++ q2) r k k' s s' p2 q2
  | deep {r t : Rw} {key p q : List Int} {r' : Rw} {k k' : List Int} {s s' : Rw} {p2 q2 : List Int} (h : Step r key t) (x : PX t p q r' k k' s s' p2 q2) : PX r (key ++ p) (key ++ q) r' k k' s s' p2 q2
section
variable {r : Rw} {p q : List Int} {r' : Rw} {k k' : List Int} {s s' : Rw} {p2 q2 : List Int}
theorem PX.of {r : Rw} {p : List Int} (h : Ad r p) : ∀ {q : List Int}, Ad r q → p ≠ q → ∃ r' k k' s s' p2 q2, PX r p q r' k k' s s' p2 q2 := by
  induction h with
  | «let» c => intro q h n; cases h with
    | «let» => exact absurd rfl n
    | step h t => cases h
  | @step r s key p st t ih =>
    intro q h n
    cases h with
    | «let» c => cases st
    | @step _ s2 key2 p2 st2 t2 =>
      by_cases e : key = key2
      · subst e
        obtain rfl := st.det st2
        obtain ⟨r', k, k', s, s', a, b, x⟩ := ih t2 (fun z => n (by rw [z]))
        exact ⟨r', k, k', s, s', a, b, .deep st x⟩
      · exact ⟨_, _, _, _, _, _, _, .here st st2 e⟩
/-- the next place is the later one exactly if nothing is between -/
theorem PX.next (x : PX r p q r' k k' s s' p2 q2) : ∀ {n : Nat} {ss : List (Rw × List Int × Nat)} {c : _root_.Fin 26}, Way r p n ss c →
    (nbP false ss = some q ↔ (r'.isM = false ∧ (∃ a : Nat, k = [(a : Int)] ∧ k' = [bes false r' (a : Int)]) ∧ s.ep true = some p2 ∧ s'.ep false = some q2)) := by
  induction x with
  | @here r s s' k k' p2 q2 h h' ne =>
    intro n ss c w
    rcases Way.inv w with ⟨_, e, rfl⟩ | ⟨key, pp, t, ss', e, rfl, st, w'⟩
    · cases h
    obtain ⟨rfl, rfl⟩ := List.append_inj e (by rw [h.len, st.len])
    obtain rfl := h.det st
    have nn := nbF_none false w'
    rcases hb : nbF false ss' with _ | _ | q'
    · have hp : s.ep true = some p2 := nn.mp hb
      by_cases hm : r.isM = true
      · obtain ⟨k0, rest, e⟩ : ∃ k0 rest, k = k0 :: rest := by cases h <;> exact ⟨_, _, rfl⟩
        subst e
        have e1 : nbP false ((r, k0 :: rest, n) :: ss') = none := by
          simp only [nbP, nbF, hb, combF, stepF, hm, if_true]
          rfl
        rw [e1]
        constructor
        · intro z; cases z
        · rintro ⟨z, _⟩; rw [hm] at z; cases z
      · have hm : r.isM = false := by simpa using hm
        obtain ⟨a, rfl⟩ := step_one h hm
        obtain ⟨b, rfl⟩ := step_one h' hm
        have e1 : nbP false ((r, [(a : Int)], n) :: ss') = if tellB r [bes false r (a : Int)] = true then ((partR r (bes false r (a : Int))).ep false).map (bes false r (a : Int) :: ·) else none := by
          simp only [nbP, nbF, hb, combF, stepF, hm, Bool.false_eq_true, if_false]
          split <;> rfl
        rw [e1]
        by_cases ht : tellB r [bes false r (a : Int)] = true
        · rw [if_pos ht]
          have st' := tell_step h hm ht
          constructor
          · intro z
            obtain ⟨e, he, z⟩ := Option.map_eq_some_iff.mp z
            have z : bes false r (a : Int) :: e = (b : Int) :: q2 := z
            obtain ⟨z1, rfl⟩ := List.cons.inj z
            rw [z1] at st' he
            obtain rfl := st'.det h'
            rw [part_of h' hm] at he
            exact ⟨hm, ⟨a, rfl, by rw [z1]⟩, hp, he⟩
          · rintro ⟨_, ⟨a', e1, e2⟩, _, he⟩
            have e1 := (List.cons.inj e1).1
            rw [← e1] at e2
            have e2 := (List.cons.inj e2).1
            rw [← e2, part_of h' hm, he]
            rfl
        · rw [if_neg ht]
          constructor
          · intro z; cases z
          · rintro ⟨_, ⟨a', e1, e2⟩, _, _⟩
            have e1 := (List.cons.inj e1).1
            rw [← e1] at e2
            have e2 := (List.cons.inj e2).1
            have := tell_of h' hm
            rw [e2] at this
            exact absurd this ht
    · have e1 : nbP false ((r, k, n) :: ss') = none := by
        simp only [nbP, nbF, hb, combF]
        rfl
      rw [e1]
      constructor
      · intro z; cases z
      · rintro ⟨_, _, z, _⟩
        rw [nn.mpr z] at hb
        cases hb
    · have e1 : nbP false ((r, k, n) :: ss') = some (k ++ q') := by
        simp only [nbP, nbF, hb, combF]
        rfl
      rw [e1]
      constructor
      · intro z
        exact absurd (List.append_inj (Option.some.inj z) (by rw [h.len, h'.len])).1 ne
      · rintro ⟨_, _, z, _⟩
        rw [nn.mpr z] at hb
        cases hb
  | @deep r t key p q r' k k' s s' p2 q2 h x ih =>
    intro n ss c w
    rcases Way.inv w with ⟨_, e, rfl⟩ | ⟨key', pp, t', ss', e, rfl, st, w'⟩
    · cases h
    obtain ⟨rfl, rfl⟩ := List.append_inj e (by rw [h.len, st.len])
    obtain rfl := h.det st
    rw [← ih w']
    rcases hb : nbF false ss' with _ | _ | q'
    · have e2 : nbP false ss' = none := by rw [nbP, hb]; rfl
      rw [e2]
      constructor
      · intro z
        exfalso
        by_cases hm : r.isM = true
        · obtain ⟨k0, rest, e⟩ : ∃ k0 rest, key = k0 :: rest := by cases h <;> exact ⟨_, _, rfl⟩
          subst e
          have e1 : nbP false ((r, k0 :: rest, n) :: ss') = none := by
            simp only [nbP, nbF, hb, combF, stepF, hm, if_true]
            rfl
          rw [e1] at z
          cases z
        · have hm : r.isM = false := by simpa using hm
          obtain ⟨a, rfl⟩ := step_one h hm
          have e1 : nbP false ((r, [(a : Int)], n) :: ss') = if tellB r [bes false r (a : Int)] = true then ((partR r (bes false r (a : Int))).ep false).map (bes false r (a : Int) :: ·) else none := by
            simp only [nbP, nbF, hb, combF, stepF, hm, Bool.false_eq_true, if_false]
            split <;> rfl
          rw [e1] at z
          split at z
          · obtain ⟨e, he, z⟩ := Option.map_eq_some_iff.mp z
            have z := (List.cons.inj z).1
            unfold bes at z
            split at z <;> omega
          · cases z
      · intro z; cases z
    · have e2 : nbP false ss' = none := by rw [nbP, hb]; rfl
      have e1 : nbP false ((r, key, n) :: ss') = none := by
        simp only [nbP, nbF, hb, combF]
        rfl
      rw [e1, e2]
      constructor <;> (intro z; cases z)
    · have e2 : nbP false ss' = some q' := by rw [nbP, hb]; rfl
      have e1 : nbP false ((r, key, n) :: ss') = some (key ++ q') := by
        simp only [nbP, nbF, hb, combF]
        rfl
      rw [e1, e2]
      constructor
      · intro z; rw [List.append_cancel_left (Option.some.inj z)]
      · intro z; rw [Option.some.inj z]
end
end DL
set_option Elab.async false
set_option linter.all false
set_option maxRecDepth 100000
set_option maxHeartbeats 4000000
namespace DL
open PySem PySem.Spec PyProof.Rows L2
/-- f tells an outcome of w: where it tells one, w holds of all that holds of it -/
def Wy {α β : Type} (w : α → (β → Prop) → Prop) (f : α → Option β) : Prop := ∀ a b, f a = some b → ∀ Q : β → Prop, Q b → w a Q
def ob {α β : Type} (o : Option α) (k : α → Option β) : Option β := match o with
  | some a => k a
  | none => none
@[simp] theorem ob_some {α β : Type} (a : α) (k : α → Option β) : ob (some a) k = k a := rfl
@[simp] theorem ob_none {α β : Type} (k : α → Option β) : ob none k = none := rfl
theorem ob_get {α β : Type} {o : Option α} {k : α → Option β} {b : β} (h : ob o k = some b) : ∃ a, o = some a ∧ k a = some b := by
  cases o with
  | none => cases h
  | some a => exact ⟨a, rfl, h⟩
/-- if a test holds, the value -/
def oif {α : Type} (c : Bool) (a : Option α) : Option α := match c with
  | true => a
  | false => none
theorem oif_get {α : Type} {c : Bool} {a : Option α} {b : α} (h : oif c a = some b) : c = true ∧ a = some b := by
  cases c with
  | true => exact ⟨rfl, h⟩
  | false => cases h
abbrev XE (β : Type) := SD → Option β
abbrev X2 := PyData → PyData → Option RV
def Wy2 (rd : RD2) (g : X2) : Prop := ∀ d, Wy (rd d) (g d)
def x2 (g : X2) (fa fb : XE PyData) : XE RV := fun sd => ob (fa sd) fun d => ob (fb sd) fun e => g d e
theorem y2 {rd : RD2} {g : X2} {wa wb : WD} {fa fb : XE PyData} (hg : Wy2 rd g) (ha : Wy wa fa) (hb : Wy wb fb) : Wy (w2 rd wa wb) (x2 g fa fb) := fun sd b e Q q => by
  obtain ⟨d, h1, h2⟩ := ob_get e
  obtain ⟨d2, h3, h4⟩ := ob_get h2
  exact ha sd d h1 _ (hb sd d2 h3 _ (hg d d2 b h4 Q q))
def g1 (f : PyData → Option RV) : List PyData → Option RV
  | [d] => f d
  | _ => none
def intsOf : List PyData → Option (List Int)
  | [] => some []
  | .int i :: ds => ob (intsOf ds) fun is => some (i :: is)
  | _ => none
@[simp] theorem intsOf_map : ∀ is : List Int, intsOf (is.map PyData.int) = some is
  | [] => rfl
  | i :: is => by show ob (intsOf (is.map PyData.int)) _ = _; rw [intsOf_map is]; rfl
def strEq (s t : Str) : Bool := decide (s.cps.toList = t.cps.toList)
theorem strEq_eq (s t : Str) : strEq s t = decide (s = t) := by
  unfold strEq
  by_cases h : s = t
  · rw [h]; simp
  · have : ¬ s.cps.toList = t.cps.toList := fun z => h (by
      obtain ⟨a⟩ := s; obtain ⟨b⟩ := t
      have z : a.toList = b.toList := z
      rw [Array.toList_inj] at z
      rw [z])
    rw [decide_eq_false h, decide_eq_false this]
def gEqB : PyData → PyData → Option Bool := fun d e => match d, e with
  | .int i, .int j => some (decide (i = j))
  | .str i, .str j => some (strEq i j)
  | .none, .none => some true
  | .bool i, .bool j => some (decide (i = j))
  | .none, .str _ => some false
  | .str _, .none => some false
  | .none, .int _ => some false
  | .int _, .none => some false
  | .int _, .str _ => some false
  | .str _, .int _ => some false
  | d, e => oif (SeqAt.shaped d && SeqAt.shaped e) (some (PyData.eqv d e))
theorem zEqB (d : PyData) : Wy (dEq d) (gEqB d) := fun e b h Q q => by
  unfold gEqB at h; unfold dEq
  split at h
  · cases h; exact q
  · cases h; rw [strEq_eq] at q; exact q
  · cases h; exact q
  · cases h; exact q
  · cases h; exact q
  · cases h; exact q
  · cases h; exact q
  · cases h; exact q
  · cases h; exact q
  · cases h; exact q
  · obtain ⟨h0, e1⟩ := oif_get h
    cases e1
    rw [Bool.and_eq_true] at h0
    first
    | exact ⟨h0, q⟩
    | (split; all_goals first | exact ⟨h0, q⟩ | (exfalso; rename_i n1 n2 n3 n4 n5 n6 n7 n8 n9 n10; first | exact n1 _ _ rfl rfl | exact n2 _ _ rfl rfl | exact n3 rfl rfl | exact n4 _ _ rfl rfl | exact n5 _ rfl rfl | exact n6 _ rfl rfl | exact n7 _ rfl rfl | exact n8 _ rfl rfl | exact n9 _ _ rfl rfl | exact n10 _ _ rfl rfl))
def gEq (neg : Bool) : X2 := fun d e => ob (gEqB d e) fun b => some (.va (.bool (if neg then !b else b)))
theorem zEq {neg : Bool} : Wy2 (rdEq2 neg) (gEq neg) := fun d e b h Q q => by
  obtain ⟨c, h1, h2⟩ := ob_get h
  cases h2
  exact zEqB d e c h1 _ q
end DL
set_option Elab.async false
set_option linter.all false
set_option maxRecDepth 100000
set_option maxHeartbeats 4000000
namespace DL
open PySem PySem.Spec PyProof.Rows L2
abbrev XM := SD → Option (RV × SD)
def xm (f : XE RV) : XM := fun sd => ob (f sd) fun z => some (z, sd)
inductive Fl where
  | nx (sd : SD)
  | rt (z : RV)
  | bk (sd : SD)
  | ct (sd : SD)
def Fl.to (E : ED) : Fl → Prop
  | .nx sd => E.nx sd
  | .rt z => E.rt z
  | .bk sd => E.bk sd
  | .ct sd => E.ct sd
abbrev XS := SD → Option Fl
end DL
set_option Elab.async false
set_option linter.all false
set_option maxRecDepth 100000
set_option maxHeartbeats 4000000
namespace DL
open PySem PySem.Spec PyProof.Rows L2
end DL
set_option Elab.async false
set_option linter.all false
set_option maxRecDepth 100000
namespace DL
open PySem PySem.Spec PyProof.Rows L2
variable [Tb]
/-- a new set -/
abbrev oSet (w : World) : Obj := { cls := .type "set", dict := none, data := .set #[] 0 (.fresh 0 0 (!w.params.followText "set-order")) }
end DL
set_option Elab.async false
set_option linter.all false
set_option maxRecDepth 100000
set_option maxHeartbeats 4000000
namespace DL
open PySem PySem.Spec PyProof.Rows L2
end DL
set_option Elab.async false
set_option linter.all false
set_option maxRecDepth 100000
set_option maxHeartbeats 4000000
namespace DL
open PySem PySem.Spec PyProof.Rows L2
variable [Tb]
section
variable {X : Cx} {a e : Expr} {x : Str} {p pos cpos apos : Pos} {w : WD}
theorem DxAll.erase {K : PySem.W.Frag} {H : Hp} : ∀ {vs : List V} {ds : List PyData} (n : Nat), DxAll K H vs ds → DxAll K H (vs.eraseIdx n) (ds.eraseIdx n)
  | _, _, _, .nil => .nil
  | _, _, 0, .cons _ t => t
  | _, _, n + 1, .cons h t => .cons h (DxAll.erase n t)
end
end DL
set_option Elab.async false
set_option linter.all false
set_option maxRecDepth 100000
set_option maxHeartbeats 4000000
namespace DL
open PySem PySem.Spec PyProof.Rows L2
end DL
set_option Elab.async false
set_option linter.all false
set_option maxRecDepth 100000
set_option maxHeartbeats 4000000
namespace DL
open PySem PySem.Spec PyProof.Rows L2
end DL
namespace DL
open PySem PySem.Spec PyProof.Rows L2
end DL
set_option Elab.async false
set_option linter.all false
set_option maxRecDepth 100000
set_option maxHeartbeats 4000000
namespace DL
open PySem PySem.Spec PyProof.Rows L2
theorem atI_nat {α : Type} (xs : List α) (k : Nat) : L2.atI xs (k : Int) = xs[k]? := by
  unfold L2.atI ixN
  rw [if_pos (by omega)]
  by_cases h : (k : Int) < xs.length
  · rw [if_pos h]
    show xs[(k : Int).toNat]? = _
    rw [Int.toNat_natCast]
  · rw [if_neg h]
    show none = _
    rw [List.getElem?_eq_none (by omega)]
end DL
set_option Elab.async false
set_option linter.all false
set_option maxRecDepth 100000
set_option maxHeartbeats 4000000
namespace DL
open PySem PySem.Spec PyProof.Rows L2
def iD (k : Nat) : PyData := .int (k : Int)
def nsD (ns : List Nat) : PyData := .tuple (ns.map iD)
structure Ta where
  b : List (List Nat)
  r : List Nat
  l : List Nat
  m : List Nat
deriving DecidableEq
def Ta.toD (t : Ta) : PyData := .tuple [.tuple (t.b.map nsD), nsD t.r, nsD t.l, nsD t.m]
structure Ta.Ok (t : Ta) (n : Nat) : Prop where
  n1 : 1 ≤ n
  n6 : n ≤ 6
  bl : t.b.length = n
  bb : ∀ row ∈ t.b, row.length = n ∧ ∀ x ∈ row, x < n
  rr : t.r.length = n ∧ ∀ x ∈ t.r, x < n
  ll : t.l.length = n ∧ ∀ x ∈ t.l, x < n
  mm : t.m.length = 2 ^ n - 1 ∧ ∀ x ∈ t.m, x < n
end DL
set_option Elab.async false
set_option linter.all false
set_option maxRecDepth 100000
set_option maxHeartbeats 4000000
namespace DL
open PySem PySem.Spec PyProof.Rows L2
/-- the number at a place -/
def nat (xs : List Nat) (k : Nat) : Nat := xs.getD k 0
def row (b : List (List Nat)) (k : Nat) : List Nat := b.getD k []
theorem row_mem {t : Ta} {n k : Nat} (h : t.Ok n) (hk : k < n) : t.b[k]? = some (row t.b k) ∧ (row t.b k).length = n ∧ ∀ x ∈ row t.b k, x < n := by
  have hl : k < t.b.length := by rw [h.bl]; exact hk
  unfold row
  rw [List.getD_eq_getElem?_getD, List.getElem?_eq_getElem hl]
  exact ⟨rfl, h.bb _ (List.getElem_mem hl)⟩
/-- the answer of two -/
def Ta.bo (t : Ta) (s u : Nat) : Nat := nat (row t.b s) u
end DL
set_option Elab.async false
set_option linter.all false
set_option maxRecDepth 100000
set_option maxHeartbeats 4000000
namespace DL
open PySem PySem.Spec PyProof.Rows L2
section
variable {sd s1 : SD} {f f1 f2 fa fb fc : XE PyData} {r r1 : XE RV} {d d1 d2 e : PyData} {z z1 z2 : RV} {ds es zs out : List PyData} {b : Bool} {i j k n : Nat}
theorem eob {α β : Type} {o : Option α} {k : α → Option β} {a : α} {b : β} (h : o = some a) (q : k a = some b) : ob o k = some b := by rw [h]; exact q
theorem e2 {g : X2} (h : fa sd = some d) (h2 : fb sd = some e) (q : g d e = some z) : x2 g fa fb sd = some z := eob h (eob h2 q)
variable {p p1 : XS} {fl : Fl} {s : SD}
theorem em (h : r sd = some z) : xm r sd = some (z, sd) := eob h rfl
end
end DL
set_option Elab.async false
set_option linter.all false
set_option maxRecDepth 100000
set_option maxHeartbeats 4000000
namespace DL
open PySem PySem.Spec PyProof.Rows L2
def lotN (xs : List Nat) : List Nat := (List.range 36).filter fun k => xs.contains k
def numN (lot : List Nat) : Nat := (lot.map fun s => 2 ^ s).sum
/-- what mixed has for answers -/
def Ta.mx (t : Ta) (xs : List Nat) : Nat := nat t.m (numN (lotN xs) - 1)
/-- each answer once -/
def Perm (o : List Nat) (n : Nat) : Prop := o.Perm (List.range n)
theorem Perm.len {o : List Nat} {n : Nat} (h : Perm o n) : o.length = n := by rw [List.Perm.length_eq h, List.length_range]
theorem Perm.lt {o : List Nat} {n : Nat} (h : Perm o n) : ∀ x ∈ o, x < n := fun x m => List.mem_range.mp ((List.Perm.mem_iff h).mp m)
theorem Perm.mem {o : List Nat} {n s : Nat} (h : Perm o n) (hs : s < n) : s ∈ o := (List.Perm.mem_iff h).mpr (List.mem_range.mpr hs)
end DL
set_option Elab.async false
set_option linter.all false
set_option maxRecDepth 100000
set_option maxHeartbeats 4000000
namespace DL
open PySem PySem.Spec PyProof.Rows L2
end DL
set_option Elab.async false
set_option linter.all false
set_option maxRecDepth 100000
set_option maxHeartbeats 4000000
namespace DL
open PySem PySem.Spec PyProof.Rows L2
theorem Perm.nodup {o : List Nat} {n : Nat} (p : Perm o n) : o.Nodup := (List.Perm.nodup_iff p).mpr List.nodup_range
theorem Perm.back {o : List Nat} {n k : Nat} (p : Perm o n) (hk : k < n) : o.idxOf (nat o k) = k ∧ nat o k < n := by
  have hl : k < o.length := by rw [p.len]; exact hk
  have e : nat o k = o[k] := by
    unfold nat
    rw [List.getD_eq_getElem?_getD, List.getElem?_eq_getElem hl]; rfl
  rw [e]
  exact ⟨List.Nodup.idxOf_getElem p.nodup k hl, p.lt _ (List.getElem_mem hl)⟩
/-- k + 1 of one answer, one behind another -/
def Ta.pw (t : Ta) (s : Nat) : Nat → Nat
  | 0 => s
  | k + 1 => t.bo (t.pw s k) s
end DL
set_option Elab.async false
set_option linter.all false
set_option maxRecDepth 100000
set_option maxHeartbeats 4000000
namespace DL
open PySem PySem.Spec PyProof.Rows L2
/-- the first k powers -/
def Ta.P (t : Ta) (s k : Nat) : List Nat := (List.range k).map (t.pw s)
theorem Ta.P_len (t : Ta) (s k : Nat) : (t.P s k).length = k := by unfold Ta.P; rw [List.length_map, List.length_range]
/-- m powers, no two alike; the next one is power f again -/
structure Ta.Rd (t : Ta) (s m f : Nat) : Prop where
  lt : f < m
  back : t.pw s m = t.pw s f
  nd : (t.P s m).Nodup
section
variable {t : Ta} {s m f : Nat}
theorem P_get {i : Nat} (hi : i < m) : (t.P s m)[i]? = some (t.pw s i) := by
  unfold Ta.P; rw [List.getElem?_map, List.getElem?_range hi]; rfl
theorem Ta.Rd.inj (r : t.Rd s m f) {i j : Nat} (hi : i < m) (hj : j < m) (e : t.pw s i = t.pw s j) : i = j := by
  have h1 := P_get (t := t) (s := s) hi
  have h2 := P_get (t := t) (s := s) hj
  rw [← e] at h2
  have li : i < (t.P s m).length := by rw [Ta.P_len]; exact hi
  have lj : j < (t.P s m).length := by rw [Ta.P_len]; exact hj
  have e1 := (List.getElem?_eq_some_iff.mp h1).2
  have e2 := (List.getElem?_eq_some_iff.mp h2).2
  have q1 := List.Nodup.idxOf_getElem r.nd i li
  have q2 := List.Nodup.idxOf_getElem r.nd j lj
  rw [e1] at q1
  rw [e2] at q2
  exact q1.symm.trans q2
theorem Ta.Rd.per (r : t.Rd s m f) : ∀ i : Nat, t.pw s (f + i + (m - f)) = t.pw s (f + i)
  | 0 => by
    have := r.lt
    rw [show f + 0 + (m - f) = m by omega]; exact r.back
  | i + 1 => by
    rw [show f + (i + 1) + (m - f) = (f + i + (m - f)) + 1 by omega, show f + (i + 1) = (f + i) + 1 by omega]
    show t.bo _ s = t.bo _ s
    rw [r.per i]
theorem Ta.Rd.per2 (r : t.Rd s m f) (i : Nat) : ∀ k : Nat, t.pw s (f + i + (m - f) * k) = t.pw s (f + i)
  | 0 => by rw [Nat.mul_zero, Nat.add_zero]
  | k + 1 => by
    rw [Nat.mul_succ, ← Nat.add_assoc, show f + i + (m - f) * k + (m - f) = f + (i + (m - f) * k) + (m - f) by omega, r.per, ← Nat.add_assoc]
    exact r.per2 i k
/-- a power by the round -/
theorem Ta.Rd.take (r : t.Rd s m f) {k : Nat} (hk : f ≤ k) : t.pw s (f + (k - f) % (m - f)) = t.pw s k := by
  have e := Nat.mod_add_div (k - f) (m - f)
  have h := r.per2 ((k - f) % (m - f)) ((k - f) / (m - f))
  rw [← h]
  congr 1
  omega
end
end DL
set_option Elab.async false
set_option linter.all false
set_option maxRecDepth 100000
set_option maxHeartbeats 4000000
namespace DL
open PySem PySem.Spec PyProof.Rows L2
end DL
set_option Elab.async false
set_option linter.all false
set_option maxRecDepth 100000
set_option maxHeartbeats 4000000
namespace DL
open PySem PySem.Spec PyProof.Rows L2
end DL
set_option Elab.async false
set_option linter.all false
set_option maxRecDepth 100000
set_option maxHeartbeats 4000000
namespace DL
open PySem PySem.Spec PyProof.Rows L2
end DL
set_option Elab.async false
set_option linter.all false
set_option maxRecDepth 100000
set_option maxHeartbeats 4000000
namespace DL
open PySem PySem.Spec PyProof.Rows L2
variable [Tb]
section
variable {X : Cx} {e tg iter tg1 iter1 elt : Expr} {ifs ifs1 : List Expr} {pos p : Pos} {g g1 : WG} {t t1 : WB} {wi wj : WD} {we : WR} {is is1 vs1 : List Nat} {scope : Scope} {own : List (Str × Nat)}
/-- a comprehension of two clauses, by its parts -/
structure EvC2 (X : Cx) (elt tg iter tg1 iter1 : Expr) (ifs ifs1 : List Expr) (scope : Scope) (w : WR) : Prop where
  ex : ∃ (own : List (Str × Nat)) (vs1 : List Nat) (wi wi1 : TI) (g g1 : TG) (tt tt1 : TT) (te : TE), PI X tg iter wi ∧ BlkOk X.N X.env.scope scope own ∧ (∀ i ∈ vs1, i ∈ own.map (·.2)) ∧
    (∀ (s : Shared) (H : Hp) (C : Addr) (cl : List (Str × Addr)) (fp : List Addr), PG (X.blk s H scope (compEnvC scope cl C X.env) fp) tg g) ∧
    (∀ (s : Shared) (H : Hp) (C : Addr) (cl : List (Str × Addr)) (fp : List Addr), PTs (X.blk s H scope (compEnvC scope cl C X.env) fp) ifs tt) ∧
    (∀ (s : Shared) (H : Hp) (C : Addr) (cl : List (Str × Addr)) (fp : List Addr), PI (X.blk s H scope (compEnvC scope cl C X.env) fp) tg1 iter1 wi1) ∧
    (∀ (s : Shared) (H : Hp) (C : Addr) (cl : List (Str × Addr)) (fp : List Addr), PG (X.blk s H scope (compEnvC scope cl C X.env) fp) tg1 g1) ∧
    (∀ (s : Shared) (H : Hp) (C : Addr) (cl : List (Str × Addr)) (fp : List Addr), PTs (X.blk s H scope (compEnvC scope cl C X.env) fp) ifs1 tt1) ∧
    (∀ (s : Shared) (H : Hp) (C : Addr) (cl : List (Str × Addr)) (fp : List Addr), PE (X.blk s H scope (compEnvC scope cl C X.env) fp) elt te) ∧
    (∀ x, foldedSetIterable iter X.env x = pure x) ∧ (∀ env x, foldedSetIterable iter1 env x = pure x) ∧ ∀ σ H Q, tR X.K w σ H Q → tLc2 wi g tt wi1 g1 tt1 te (own.map (·.2)) vs1 σ H Q
  mo : ∀ sd (Q Q' : RV → Prop), (∀ r, Q r → Q' r) → w sd Q → w sd Q'
theorem EvC2.rv {w : WR} (h : EvC2 X elt tg iter tg1 iter1 ifs ifs1 scope w) (hc : X.calm = true) (hN : X.N.Nodup) : EvR X (.ListComp elt [⟨tg, iter, ifs, 0⟩, ⟨tg1, iter1, ifs1, 0⟩] scope pos) w where
  pe := by
    obtain ⟨own, vs1, wi, wi1, g, g1, tt, tt1, te, h1, h2, h0, h3, h4, h5, h6, h7, h8, h9, h10, h11⟩ := h.ex
    exact PE.weak (pe_lc2 hc hN h1 h2 h0 h3 h4 h5 h6 h7 h8 h9 h10) h11
  mo := h.mo
end
end DL
set_option Elab.async false
set_option linter.all false
set_option maxRecDepth 100000
set_option maxHeartbeats 4000000
namespace DL
open PySem PySem.Spec PyProof.Rows L2
end DL
set_option Elab.async false
set_option linter.all false
set_option maxRecDepth 100000
set_option maxHeartbeats 4000000
namespace DL
open PySem PySem.Spec PyProof.Rows L2
variable [Tb]
def KR (K : PySem.W.Frag) (H : Hp) : List (Key × V) → List (PyData × PyData) → Prop
  | [], [] => True
  | p :: ps, q :: qs => (q.1 = keyD p.1 ∧ Dx K H p.2 q.2) ∧ KR K H ps qs
  | [], _ :: _ => False
  | _ :: _, [] => False
section
variable {K : PySem.W.Frag} {H H' : Hp} {o : HO}
theorem KR.keys : ∀ {kvs : List (Key × V)} {es : List (PyData × PyData)}, KR K H kvs es → es.map (·.1) = kvs.map (fun p => keyD p.1)
  | [], [], _ => rfl
  | p :: ps, q :: qs, h => by rw [List.map_cons, List.map_cons, h.1.1, KR.keys h.2]
  | [], _ :: _, h => h.elim
  | _ :: _, [], h => h.elim
theorem KR.vals : ∀ {kvs : List (Key × V)} {es : List (PyData × PyData)}, KR K H kvs es → DxAll K H (kvs.map (·.2)) (es.map (·.2))
  | [], [], _ => .nil
  | p :: ps, q :: qs, h => .cons h.1.2 (KR.vals h.2)
  | [], _ :: _, h => h.elim
  | _ :: _, [], h => h.elim
theorem KR.mk : ∀ (kvs : List (Key × V)) (es : List (PyData × PyData)), es.map (·.1) = kvs.map (fun p => keyD p.1) → DxAll K H (kvs.map (·.2)) (es.map (·.2)) → KR K H kvs es
  | [], [], _, _ => trivial
  | p :: ps, q :: qs, e, h => by
    rw [List.map_cons, List.map_cons] at e h
    injection e with e1 e2
    cases h with
    | cons h1 h2 => exact ⟨⟨e1, h1⟩, KR.mk ps qs e2 h2⟩
  | [], _ :: _, e, _ => by cases e
  | _ :: _, [], e, _ => by cases e
theorem KR.same {kvs : List (Key × V)} {es : List (PyData × PyData)} (s : Same H H') (h : KR K H kvs es) : KR K H' kvs es := KR.mk _ _ h.keys (DxAll.same s _ _ h.vals)
theorem KR.len {kvs : List (Key × V)} {es : List (PyData × PyData)} (h : KR K H kvs es) : kvs.length = es.length := by
  have := congrArg List.length h.keys
  rw [List.length_map, List.length_map] at this
  exact this.symm
theorem KR.any (k : Key) : ∀ {kvs : List (Key × V)} {es : List (PyData × PyData)}, KR K H kvs es → (es.any fun p => p.1.eqv (keyD k)) = (kvs.any fun kv => decide (kv.1 = k))
  | [], [], _ => rfl
  | p :: ps, q :: qs, h => by rw [List.any_cons, List.any_cons, h.1.1, eqv_key, KR.any k h.2]
  | [], _ :: _, h => h.elim
  | _ :: _, [], h => h.elim
end
end DL
set_option Elab.async false
set_option linter.all false
set_option maxRecDepth 100000
set_option maxHeartbeats 4000000
namespace DL
open PySem PySem.Spec PyProof.Rows L2
end DL
set_option Elab.async false
set_option linter.all false
set_option maxRecDepth 100000
set_option maxHeartbeats 4000000
namespace DL
open PySem PySem.Spec PyProof.Rows L2
end DL
set_option Elab.async false
set_option linter.all false
set_option maxRecDepth 100000
set_option maxHeartbeats 4000000
namespace DL
open PySem PySem.Spec PyProof.Rows L2
end DL
set_option Elab.async false
set_option linter.all false
set_option maxRecDepth 100000
set_option maxHeartbeats 4000000
namespace DL
open PySem PySem.Spec PyProof.Rows L2
end DL
set_option Elab.async false
set_option linter.all false
set_option maxRecDepth 100000
set_option maxHeartbeats 4000000
namespace L2
open PySem PySem.Spec PyProof.Rows
end L2
namespace DL
open PySem PySem.Spec PyProof.Rows L2
end DL
set_option Elab.async false
set_option linter.all false
set_option maxRecDepth 100000
set_option maxHeartbeats 4000000
namespace DL
open PySem PySem.Spec PyProof.Rows L2
variable [Tb]
mutual
/-- no list anywhere -/
def nl : PyData → Bool
  | .none => true
  | .bool _ => true
  | .int _ => true
  | .str _ => true
  | .list _ => false
  | .tuple ds => nlA ds
  | .dict es => nlK es
def nlA : List PyData → Bool
  | [] => true
  | d :: ds => nl d && nlA ds
def nlK : List (PyData × PyData) → Bool
  | [] => true
  | (_, d) :: es => nl d && nlK es
end
theorem pairs_keys {P : Program} {w : World} {h : Heap} : ∀ {es : List DictEntry} {kvs : List (Key × Value)}, Pairs (mixKind P w) es kvs → ReadsAll h (es.map (·.key)) (kvs.map fun p => keyD p.1) [] ∧ es.map (·.val) = kvs.map (·.2)
  | _, _, .nil => ⟨.nil, rfl⟩
  | _, _, .cons (e := e) (kv := kv) h1 h2 t => by
    obtain ⟨q1, q2⟩ := pairs_keys t
    refine ⟨?_, by rw [List.map_cons, List.map_cons, h2, q2]⟩
    obtain ⟨k, v⟩ := kv
    rcases keyIs_shape h1 with ⟨i, tk, e1, e2⟩ | ⟨x, tk, e1, e2⟩
    · have e1 : k = Sum.inl i := e1
      subst e1
      rw [List.map_cons, e2]
      exact ReadsAll.cons (as := []) (bs := []) (Reads.int i tk) q1
    · have e1 : k = Sum.inr x := e1
      subst e1
      rw [List.map_cons, e2]
      exact ReadsAll.cons (as := []) (bs := []) (Reads.str x tk) q1
theorem kv_vals : ∀ {kvs : List (Key × V)} {ws : List (Key × Value)}, KV kvs ws → (kvs.map fun p => keyD p.1) = (ws.map fun p => keyD p.1) ∧ Vals (kvs.map (·.2)) (ws.map (·.2))
  | _, _, .nil => ⟨rfl, .nil⟩
  | _, _, .cons h t => by
    obtain ⟨q1, q2⟩ := kv_vals t
    exact ⟨by rw [List.map_cons, List.map_cons, q1, h.1], .cons h.2 q2⟩
section
variable {X : Cx} {pins : List (Addr × Obj)} {σ : L2.St} {H : Hp} {s : Shared}
mutual
theorem Dx.readsX (I : Inv X pins σ H s) : ∀ (d : PyData) (v : V) (u : Value), Dx X.K H v d → RelV v u → nl d = true → ∃ as, Reads s.heap u d as ∧ sysModules ∉ as
  | .none, _, _, h, r, _ => by
    cases h
    cases r
    exact ⟨_, Reads.none, by simp⟩
  | .bool b, _, _, h, r, _ => by
    cases h
    cases r
    exact ⟨_, Reads.bool b, by simp⟩
  | .int i, _, _, h, r, _ => by
    cases h
    obtain ⟨t, rfl⟩ := r
    exact ⟨_, Reads.int i t, by simp⟩
  | .str x, _, _, h, r, _ => by
    cases h
    obtain ⟨t, rfl⟩ := r
    exact ⟨_, Reads.str x t, by simp⟩
  | .list ds, _, _, _, _, n => by simp [nl] at n
  | .tuple ds, _, _, h, r, n => by
    cases h with
    | tup hs ha =>
      cases r
      obtain ⟨its, rv, ⟨o, ho, hc, k, hd⟩, _⟩ := I.tuple hs.sq
      obtain ⟨as, hr, hn⟩ := DxAll.readsX I ds _ its ha rv (by simpa [nl] using n)
      exact ⟨_, Reads.tuple ho hc hd hr, hn⟩
  | .dict es, _, _, h, r, n => by
    cases h with
    | dct h1 h2 h3 =>
      cases r
      obtain ⟨kvs, rfl, ek, ev⟩ := h2
      obtain ⟨_, hsys, ws, kv, o, xs, ep, ho, hx, hd, _, hp, _⟩ := I.hok _ _ h1
      obtain ⟨k1, k2⟩ := kv_vals kv
      obtain ⟨p1, p2⟩ := pairs_keys (h := s.heap) hp
      rw [ev] at h3
      obtain ⟨bs, hr, hn⟩ := DxKv.readsX I es _ _ h3 k2 (by simpa [nl] using n)
      rw [← k1, ← ek] at p1
      rw [← p2] at hr
      refine ⟨_, Reads.dict ho hx.1 hd p1 hr, ?_⟩
      intro m
      rcases List.mem_append.mp m with m | m
      · rw [List.mem_singleton] at m
        rw [← m] at hsys
        simp at hsys
      · exact hn m
theorem DxAll.readsX (I : Inv X pins σ H s) : ∀ (ds : List PyData) (vs : List V) (us : List Value), DxAll X.K H vs ds → Vals vs us → nlA ds = true → ∃ as, ReadsAll s.heap us ds as ∧ sysModules ∉ as
  | [], _, _, h, r, _ => by
    cases h
    cases r
    exact ⟨_, ReadsAll.nil, by simp⟩
  | d :: ds, _, _, h, r, n => by
    cases h with
    | cons h1 h2 =>
      cases r with
      | cons r1 r2 =>
        have n : nl d = true ∧ nlA ds = true := by simpa [nlA] using n
        obtain ⟨as, q1, m1⟩ := Dx.readsX I d _ _ h1 r1 n.1
        obtain ⟨bs, q2, m2⟩ := DxAll.readsX I ds _ _ h2 r2 n.2
        exact ⟨_, ReadsAll.cons q1 q2, fun m => (List.mem_append.mp m).elim m1 m2⟩
theorem DxKv.readsX (I : Inv X pins σ H s) : ∀ (es : List (PyData × PyData)) (vs : List V) (us : List Value), DxAll X.K H vs (es.map (·.2)) → Vals vs us → nlK es = true → ∃ as, ReadsAll s.heap us (es.map (·.2)) as ∧ sysModules ∉ as
  | [], _, _, h, r, _ => by
    cases h
    cases r
    exact ⟨_, ReadsAll.nil, by simp⟩
  | (k, d) :: es, _, _, h, r, n => by
    cases h with
    | cons h1 h2 =>
      cases r with
      | cons r1 r2 =>
        have n : nl d = true ∧ nlK es = true := by simpa [nlK] using n
        obtain ⟨as, q1, m1⟩ := Dx.readsX I d _ _ h1 r1 n.1
        obtain ⟨bs, q2, m2⟩ := DxKv.readsX I es _ _ h2 r2 n.2
        exact ⟨_, ReadsAll.cons q1 q2, fun m => (List.mem_append.mp m).elim m1 m2⟩
end
end
section
variable {X : Cx}
/-- the text of data without lists -/
theorem call_reprN (hg : X.A.guards = some []) (hu : X.A.units + 66 < cLine) : CallR X (.builtin "repr") (fun xs H Q => ∃ x d, xs = [x] ∧ Dx X.K H x d ∧ d.showable = true ∧
    nl d = true ∧ d.depth ≤ 64 ∧ d.shown.length ≤ sizeLine ∧ Q (.str d.shown) H) := by
  intro pins s σ H xs us Q I r h
  obtain ⟨x, d, rfl, hd, hs, hn, h64, hsz, q⟩ := h
  obtain ⟨u, rfl, rx⟩ := vals1 r
  have refs : ∀ {a : Addr}, u = .ref a → wpAny (model X.prog X.w) X.A (call (.builtin "repr") [u]) (EP X pins σ Q) X.xe s := by
    rintro a rfl
    obtain ⟨as, r1, m1⟩ := Dx.readsX I d x (.ref a) hd rx hn
    refine repr_of_reads' r1 hs (fun _ => m1) hg (by omega) (fun _ _ e => e) (fun h' u tk hk => ?_) hsz
    exact ⟨.str d.shown, H, I.kept hk, ⟨u, rfl⟩, q⟩
  cases hd with
  | non => cases rx; exact PySem.P.repr_of_none ⟨.str _, H, I.tok _, ⟨_, rfl⟩, q⟩
  | bl b => cases rx; exact PySem.P.repr_of_bool ⟨.str _, H, I.tok _, ⟨_, rfl⟩, q⟩
  | int i => obtain ⟨t, rfl⟩ := rx; exact PySem.P.repr_of_int (of_decide_eq_true hs) ⟨.str _, H, I.tok _, ⟨_, rfl⟩, q⟩
  | str z => obtain ⟨t, rfl⟩ := rx; exact PySem.P.repr_of_str ⟨.str _, H, I.tok _, ⟨_, rfl⟩, q⟩ hsz
  | lst h1 h2 => exact refs rx
  | tup h1 h2 => exact refs rx
  | dct h1 h2 h3 => exact refs rx
def okShowN (d : PyData) : Prop := (d.showable = true ∧ nl d = true ∧ d.depth ≤ 64) ∧ d.shown.length ≤ sizeLine
/-- data that hold a dict or a list, not both -/
def dReprX (d : PyData) (Q : RV → Prop) : Prop := (okShow d ∨ okShowN d) ∧ Q (.va (.str d.shown))
theorem cd_reprX (hr : RmG 1 X.A) : CallD X (.builtin "repr") .bo (rd1 dReprX) where
  ex := ⟨fun vs H Q => (∃ x d, vs = [x] ∧ Dp X.K H x d ∧ d.showable = true ∧ SeqAt.shaped d = true ∧ d.shown.length ≤ sizeLine ∧ Q (.str d.shown) H) ∨
      (∃ x d, vs = [x] ∧ Dx X.K H x d ∧ d.showable = true ∧ nl d = true ∧ d.depth ≤ 64 ∧ d.shown.length ≤ sizeLine ∧ Q (.str d.shown) H),
    fun pins s σ H xs us Q I r h => h.elim (fun h => call_reprD hr.gd (by have := hr.rm.un; omega) pins s σ H xs us Q I r h) (fun h => call_reprN hr.gd (by have := hr.rm.un; omega) pins s σ H xs us Q I r h),
    rd1_br fun S O H x d Q hs hO hd q => by
      obtain ⟨h, q⟩ := q
      rcases h with h | h
      · exact .inl ⟨x, d, rfl, boDp hd h.1.2, h.1.1, h.1.2, h.2, q _ H (Same.refl H) (.str _)⟩
      · exact .inr ⟨x, d, rfl, Dx.same hid_sub d x hd, h.1.1, h.1.2.1, h.1.2.2, h.2, q _ H (Same.refl H) (.str _)⟩⟩
  mo := rd1_mo fun d Q Q' k q => ⟨q.1, k _ q.2⟩
end
end DL
set_option Elab.async false
set_option linter.all false
set_option maxRecDepth 100000
set_option maxHeartbeats 1000000
namespace DL
open PySem PySem.Spec PyProof.Rows L2
variable [Tb]
def PW (d : PyData) (D W : Nat) : Prop := pl d = true ∧ d.depth ≤ D ∧ wt d ≤ W
theorem PW.mono {d : PyData} {D W D' W' : Nat} (h : PW d D W) (h1 : D ≤ D') (h2 : W ≤ W') : PW d D' W' := ⟨h.1, Nat.le_trans h.2.1 h1, Nat.le_trans h.2.2 h2⟩
theorem PW.good {d : PyData} {D W : Nat} (h : PW d D W) (h1 : D ≤ 64) (h2 : W ≤ 10000000) : Good d := good_pl h.1 (Nat.le_trans h.2.1 h1) (Nat.le_trans h.2.2 h2)
theorem pwL {D W : Nat} : ∀ {ds : List PyData}, (∀ d ∈ ds, PW d D W) → plL ds = true ∧ PyData.depthAll ds ≤ D ∧ wtL ds ≤ (W + 2) * ds.length
  | [], _ => ⟨rfl, Nat.zero_le _, Nat.zero_le _⟩
  | d :: ds, h => by
    have h1 := h d List.mem_cons_self
    have h2 := pwL (ds := ds) fun x m => h x (List.mem_cons_of_mem _ m)
    refine ⟨?_, ?_, ?_⟩
    · show (pl d && plL ds) = true
      rw [h1.1, h2.1]; rfl
    · show max d.depth (PyData.depthAll ds) ≤ D
      exact Nat.max_le.mpr ⟨h1.2.1, h2.2.1⟩
    · show wt d + 2 + wtL ds ≤ (W + 2) * (ds.length + 1)
      have := h1.2.2
      have := h2.2.2
      rw [Nat.mul_add, Nat.mul_one]
      omega
theorem PW.tup {D W : Nat} {ds : List PyData} (h : ∀ d ∈ ds, PW d D W) : PW (.tuple ds) (D + 1) ((W + 2) * ds.length + 3) := by
  have h2 := pwL h
  exact ⟨h2.1, by show PyData.depthAll ds + 1 ≤ D + 1; omega, by show wtL ds + 3 ≤ _; omega⟩
theorem PW.lst {D W : Nat} {ds : List PyData} (h : ∀ d ∈ ds, PW d D W) : PW (.list ds) (D + 1) ((W + 2) * ds.length + 3) := by
  have h2 := pwL h
  exact ⟨h2.1, by show PyData.depthAll ds + 1 ≤ D + 1; omega, by show wtL ds + 3 ≤ _; omega⟩
theorem PW.nat {k : Nat} (h : k < 100) : PW (iD k) 0 4 := ⟨by show smI (k : Int) = true; exact decide_eq_true (by omega), Nat.le_refl _, Nat.le_refl _⟩
theorem PW.ns {xs : List Nat} (h : ∀ x ∈ xs, x < 100) : PW (nsD xs) 1 (6 * xs.length + 3) := by
  have := PW.tup (ds := xs.map iD) (D := 0) (W := 4) fun d m => by
    obtain ⟨x, hx, rfl⟩ := List.mem_map.mp m
    exact PW.nat (h x hx)
  rw [List.length_map] at this
  exact this
theorem PW.word {s : Str} (h : (PyData.strOk s && PyData.strOk (reprText s)) = true) {W : Nat} (hl : (reprText s).length ≤ W) : PW (.str s) 0 W := ⟨h, Nat.le_refl _, hl⟩
theorem PW.ta {t : Ta} {n : Nat} (h : t.Ok n) : PW t.toD 3 3000 := by
  have n6 := h.n6
  have small : ∀ {xs : List Nat} {k : Nat}, (xs.length = k ∧ ∀ x ∈ xs, x < n) → k ≤ 64 → PW (nsD xs) 2 400 := fun hx hk => (PW.ns fun x m => by have := hx.2 x m; omega).mono (by omega) (by rw [hx.1]; omega)
  have hb : PW (.tuple (t.b.map nsD)) 2 400 := by
    have h1 := PW.tup (ds := t.b.map nsD) (D := 1) (W := 39) fun d m => by
      obtain ⟨r, hr, rfl⟩ := List.mem_map.mp m
      obtain ⟨k, hk, rfl⟩ := List.getElem_of_mem hr
      have hk' : k < n := by rw [← h.bl]; exact hk
      have := row_mem h hk'
      rw [List.getElem?_eq_getElem hk] at this
      have e := Option.some.inj this.1
      rw [e]
      exact (PW.ns fun x m => by have := this.2.2 x m; omega).mono (by omega) (by rw [this.2.1]; omega)
    rw [List.length_map, h.bl] at h1
    exact h1.mono (by omega) (by omega)
  have h2n : 2 ^ n ≤ 2 ^ 6 := Nat.pow_le_pow_right (by omega) n6
  have := PW.tup (ds := [.tuple (t.b.map nsD), nsD t.r, nsD t.l, nsD t.m]) (D := 2) (W := 400) fun d m => by
    simp only [List.mem_cons, List.not_mem_nil, or_false] at m
    rcases m with rfl | rfl | rfl | rfl
    · exact hb
    · exact small h.rr (by omega)
    · exact small h.ll (by omega)
    · exact small h.mm (by omega)
  exact this.mono (by omega) (by show (400 + 2) * 4 + 3 ≤ 3000; omega)
inductive Stp where
  | le (c : Str)
  | jn (i j : Nat)
  | rt (i : Nat)
  | lf (i : Nat)
  | mx (l : List Nat)
def Stp.d : Stp → PyData
  | .le c => .str c
  | .jn i j => .tuple [.str ("join" : Str), iD i, iD j]
  | .rt i => .tuple [.str ("right" : Str), iD i]
  | .lf i => .tuple [.str ("left" : Str), iD i]
  | .mx l => .tuple [.str ("mix" : Str), nsD l]
def Stp.Ok (cs : List Str) (k : Nat) : Stp → Prop
  | .le c => c ∈ cs
  | .jn i j => i < k ∧ j < k
  | .rt i => i < k
  | .lf i => i < k
  | .mx l => l ≠ [] ∧ l.length ≤ 100 ∧ ∀ x ∈ l, x < k
def spsOk (cs : List Str) : Nat → List Stp → Prop
  | _, [] => True
  | k, s :: ss => s.Ok cs k ∧ spsOk cs (k + 1) ss
theorem spsOk_mem {cs : List Str} : ∀ {ss : List Stp} {k : Nat}, spsOk cs k ss → ∀ s ∈ ss, ∃ j, j < k + ss.length ∧ s.Ok cs j
  | x :: ss, k, h, s, m => by
    rcases List.mem_cons.mp m with rfl | m
    · exact ⟨k, by rw [List.length_cons]; omega, h.1⟩
    · obtain ⟨j, h1, h2⟩ := spsOk_mem h.2 s m
      exact ⟨j, by rw [List.length_cons]; omega, h2⟩
theorem PW.sp {cs : List Str} {k : Nat} {s : Stp} (hcs : ∀ c ∈ cs, PW (.str c) 0 10) (h : s.Ok cs k) (hk : k ≤ 100) : PW s.d 2 1500 := by
  have two : ∀ {w : Str} {d : PyData} {W : Nat}, (PyData.strOk w && PyData.strOk (reprText w)) = true → (reprText w).length ≤ 300 → PW d 1 W → W ≤ 300 → PW (.tuple [.str w, d]) 2 700 := fun hw hl hd hW => by
    refine (PW.tup (D := 1) (W := 300) fun x m => ?_).mono (by omega) (by show (300 + 2) * 2 + 3 ≤ 700; omega)
    simp only [List.mem_cons, List.not_mem_nil, or_false] at m
    rcases m with rfl | rfl
    · exact (PW.word hw hl).mono (by omega) (by omega)
    · exact hd.mono (by omega) hW
  cases s with
  | le c => exact (hcs c h).mono (by omega) (by omega)
  | jn i j =>
    refine (PW.tup (D := 0) (W := 100) fun x m => ?_).mono (by omega) (by show (100 + 2) * 3 + 3 ≤ 1500; omega)
    simp only [List.mem_cons, List.not_mem_nil, or_false] at m
    rcases m with rfl | rfl | rfl
    · exact PW.word (by decide +kernel) (by decide +kernel)
    · exact (PW.nat (by have := h.1; omega)).mono (by omega) (by omega)
    · exact (PW.nat (by have := h.2; omega)).mono (by omega) (by omega)
  | rt i =>
    refine (PW.tup (D := 0) (W := 100) fun x m => ?_).mono (by omega) (by show (100 + 2) * 2 + 3 ≤ 1500; omega)
    simp only [List.mem_cons, List.not_mem_nil, or_false] at m
    rcases m with rfl | rfl
    · exact PW.word (by decide +kernel) (by decide +kernel)
    · exact (PW.nat (by have : i < k := h; omega)).mono (by omega) (by omega)
  | lf i =>
    refine (PW.tup (D := 0) (W := 100) fun x m => ?_).mono (by omega) (by show (100 + 2) * 2 + 3 ≤ 1500; omega)
    simp only [List.mem_cons, List.not_mem_nil, or_false] at m
    rcases m with rfl | rfl
    · exact PW.word (by decide +kernel) (by decide +kernel)
    · exact (PW.nat (by have : i < k := h; omega)).mono (by omega) (by omega)
  | mx l =>
    refine (PW.tup (D := 1) (W := 610) fun x m => ?_).mono (by omega) (by show (610 + 2) * 2 + 3 ≤ 1500; omega)
    simp only [List.mem_cons, List.not_mem_nil, or_false] at m
    rcases m with rfl | rfl
    · exact (PW.word (by decide +kernel) (W := 610) (by decide +kernel)).mono (by omega) (by omega)
    · exact (PW.ns fun x m => by have := h.2.2 x m; omega).mono (by omega) (by have := h.2.1; omega)
def lpD (p : Str × Nat) : PyData := .tuple [.str p.1, iD p.2]
structure Rdr where
  t : Ta
  ls : List (Str × Nat)
  ys : List Nat
def Rdr.d (r : Rdr) : PyData := .tuple [r.t.toD, .tuple (r.ls.map lpD), nsD r.ys]
structure Rdr.Ok (r : Rdr) (n : Nat) : Prop where
  t : r.t.Ok n
  l0 : r.ls ≠ []
  l7 : r.ls.length ≤ 7
  lt : ∀ p ∈ r.ls, p.2 < n
  nm : ∀ p ∈ r.ls, PW (.str p.1) 0 10
  yt : ∀ y ∈ r.ys, y < n
  yl : r.ys.length ≤ 36
def Rdr.cs (r : Rdr) : List Str := r.ls.map (·.1)
theorem Rdr.Ok.pw {r : Rdr} {n : Nat} (h : r.Ok n) : PW r.d 4 10000 := by
  have n6 := h.t.n6
  refine (PW.tup (D := 3) (W := 3000) fun x m => ?_).mono (by omega) (by show (3000 + 2) * 3 + 3 ≤ 10000; omega)
  simp only [List.mem_cons, List.not_mem_nil, or_false] at m
  rcases m with rfl | rfl | rfl
  · exact PW.ta h.t
  · refine (PW.tup (D := 1) (W := 30) fun x m => ?_).mono (by omega) (by rw [List.length_map]; have := h.l7; omega)
    obtain ⟨p, hp, rfl⟩ := List.mem_map.mp m
    refine (PW.tup (D := 0) (W := 10) fun x m => ?_).mono (by omega) (by show (10 + 2) * 2 + 3 ≤ 30; omega)
    simp only [List.mem_cons, List.not_mem_nil, or_false] at m
    rcases m with rfl | rfl
    · exact h.nm p hp
    · exact (PW.nat (by have := h.lt p hp; omega)).mono (by omega) (by omega)
  · exact (PW.ns fun x m => by have := h.yt x m; omega).mono (by omega) (by have := h.yl; omega)
def stD (ss : List Stp) : PyData := .tuple (ss.map Stp.d)
theorem PW.st {cs : List Str} {ss : List Stp} (hcs : ∀ c ∈ cs, PW (.str c) 0 10) (h : spsOk cs 0 ss) (hk : ss.length ≤ 100) : PW (stD ss) 3 151000 := by
  refine (PW.tup (D := 2) (W := 1500) fun x m => ?_).mono (by omega) (by rw [List.length_map]; omega)
  obtain ⟨s, hs, rfl⟩ := List.mem_map.mp m
  obtain ⟨j, h1, h2⟩ := spsOk_mem h s hs
  exact PW.sp hcs h2 (by omega)
end DL
set_option Elab.async false
set_option linter.all false
set_option maxRecDepth 100000
set_option maxHeartbeats 400000
namespace DL
open PySem PySem.Spec PyProof.Rows L2
variable [Tb]
section
variable {r : Rw} {p q : List Int} {r' : Rw} {k k' : List Int} {s s' : Rw} {p2 q2 : List Int}
theorem PX.ne (x : PX r p q r' k k' s s' p2 q2) : p ≠ q := by
  induction x with
  | here h h' ne => exact fun z => ne (List.append_inj z (by rw [h.len, h'.len])).1
  | deep h x ih => exact fun z => ih (List.append_cancel_left z)
end
end DL
set_option Elab.async false
set_option linter.all false
set_option maxRecDepth 100000
set_option maxHeartbeats 4000000
namespace DL
open PySem PySem.Spec PyProof.Rows L2
variable [Tb]
section
variable {X : Cx} {elt iter : Expr} {x : Str} {px p pos gpos : Pos} {scope : Scope} {ok : PyData → Prop} {pb : PyData → Bool} {fd : FuncData} {c P : Addr} {k : Nat} {w : WD}
/-- a tuple's texts, as they stand -/
def strsOf : List Expr → Option (List Str)
  | [] => some []
  | .Constant (.str x) _ _ :: r => (strsOf r).map (x :: ·)
  | _ => none
end
end DL
set_option Elab.async false
set_option linter.all false
set_option maxRecDepth 100000
set_option maxHeartbeats 4000000
namespace L2
open PySem PySem.Spec PyProof.Rows
/-- the entries' keys are these texts -/
def KeyS : List DictEntry → List Str → Prop
  | [], [] => True
  | e :: r, z :: zs => (∃ t, e.key = .str z t) ∧ KeyS r zs
  | _, _ => False
theorem KeyS.len : ∀ {es : List DictEntry} {zs : List Str}, KeyS es zs → es.length = zs.length
  | [], [], _ => rfl
  | _ :: _, _ :: _, h => by rw [List.length_cons, List.length_cons, KeyS.len h.2]
theorem KeyS.get : ∀ {es : List DictEntry} {zs : List Str}, KeyS es zs → ∀ {i : Nat} {e : DictEntry}, es[i]? = some e → ∃ z t, zs[i]? = some z ∧ e.key = .str z t
  | e :: _, z :: _, h, 0, _, q => by
    cases q
    obtain ⟨t, k⟩ := h.1
    exact ⟨z, t, rfl, k⟩
  | _ :: _, _ :: _, h, i + 1, e, q => KeyS.get h.2 (i := i) q
  | [], [], _, i, _, q => by cases i <;> cases q
end L2
namespace DL
open PySem PySem.Spec PyProof.Rows L2
def StrS : List Value → List Str → Prop
  | [], [] => True
  | v :: r, z :: zs => (∃ t, v = .str z t) ∧ StrS r zs
  | _, _ => False
theorem StrS.vals : ∀ {vs : List Value} {zs : List Str}, StrS vs zs → Vals (zs.map V.str) vs
  | [], [], _ => .nil
  | _ :: _, _ :: _, h => .cons h.1 (StrS.vals h.2)
variable [Tb]
end DL
set_option Elab.async false
set_option linter.all false
set_option maxRecDepth 100000
set_option maxHeartbeats 4000000
namespace PySem.SeqAt
open PySem PyProof.Rows
open MeetsSeq
end PySem.SeqAt
namespace DL
open PySem PySem.Spec PyProof.Rows L2
variable [Tb]
theorem DxAll.set {K : PySem.W.Frag} {H : Hp} {v : V} {d : PyData} (hd : Dx K H v d) : ∀ {xs : List V} {ds : List PyData}, DxAll K H xs ds → ∀ j : Nat, DxAll K H (xs.set j v) (ds.set j d)
  | _, _, .nil, _ => .nil
  | _, _, .cons h t, 0 => .cons hd t
  | _, _, .cons h t, j + 1 => .cons h (DxAll.set hd t j)
section
variable {X : Cx} {kx vx : Expr} {x : Str} {pos p : Pos}
def dListA (d : PyData) (Q : RV → Prop) : Prop := match d with
  | .str z => z.length ≤ sizeLine ∧ Q (.fr (signD z))
  | .list xs => Q (.fr xs)
  | .tuple xs => Q (.fr xs)
  | _ => False
theorem dListA_or {d : PyData} {Q : RV → Prop} (q : dListA d Q) : dList d Q ∨ dListS d Q := by
  cases d with
  | str z => exact .inr q
  | list xs => exact .inl q
  | tuple xs => exact .inl q
  | _ => exact q.elim
theorem cd_listA (hc : X.calm = true) : CallD X (.type "list") .sh (rd1 dListA) where
  ex := by
    obtain ⟨r1, c1, b1⟩ := (cd_list (X := X)).ex
    obtain ⟨r2, c2, b2⟩ := (cd_listS hc).ex
    refine ⟨fun vs H Q => r1 vs H Q ∨ r2 vs H Q, fun pins s σ H xs us Q I r h => h.elim (c1 pins s σ H xs us Q I r) (c2 pins s σ H xs us Q I r), ?_⟩
    refine rd1_br fun S O H x d Q hs hO hd q => ?_
    rcases dListA_or q with q | q
    · exact .inl (b1 S O H [x] [d] Q hs hO (.cons hd .nil) q)
    · exact .inr (b2 S O H [x] [d] Q hs hO (.cons hd .nil) q)
  mo := rd1_mo fun d Q Q' k q => by
    unfold dListA at q ⊢
    split at q <;> first | exact ⟨q.1, k _ q.2⟩ | exact k _ q | exact q.elim
end
end DL
set_option Elab.async false
set_option linter.all false
set_option maxRecDepth 100000
set_option maxHeartbeats 4000000
namespace DL
open PySem PySem.Spec PyProof.Rows L2 RZ
end DL
set_option Elab.async false
set_option linter.all false
set_option maxRecDepth 100000
set_option maxHeartbeats 4000000
namespace DL
open PySem PySem.Spec PyProof.Rows L2 RZ
end DL
set_option Elab.async false
set_option linter.all false
set_option maxRecDepth 100000
set_option maxHeartbeats 4000000
namespace DL
open PySem PySem.Spec PyProof.Rows L2 RZ
end DL
set_option Elab.async false
set_option linter.all false
set_option maxRecDepth 100000
set_option maxHeartbeats 4000000
namespace DL
open PySem PySem.Spec PyProof.Rows L2
end DL
set_option Elab.async false
set_option linter.all false
set_option maxRecDepth 100000
set_option maxHeartbeats 4000000
namespace DL
open PySem PySem.Spec PyProof.Rows L2
end DL
set_option Elab.async false
set_option linter.all false
set_option maxRecDepth 100000
set_option maxHeartbeats 4000000
namespace DL
open PySem PySem.Spec PyProof.Rows L2
end DL
set_option Elab.async false
set_option linter.all false
set_option maxRecDepth 100000
set_option maxHeartbeats 4000000
namespace DL
open PySem PySem.Spec PyProof.Rows L2
end DL
set_option Elab.async false
set_option linter.all false
set_option maxRecDepth 100000
set_option maxHeartbeats 4000000
namespace DL
open PySem PySem.Spec PyProof.Rows L2 GenW
open Sem (wp)
/-- a turn's value, and what is wanted behind it: c goes on -/
def YV (c : Bool) (T : Nat → Shared → Prop) (out : Bool → Shared → Prop) : Protocol := fun n _ v s kap =>
  ∃ b, v = .bool b ∧ if b = c then ∃ m, m < n ∧ T m s ∧ ∀ s'', T m s'' → kap (.send .none) s'' else out b s
abbrev RV' (c : Bool) (out : Bool → Shared → Prop) : GenEnd := fun _ _ r s₁ => r = .ok .next ∧ out c s₁
section
variable {prog : Program} {w : World} {A : Around}
theorem seg_loopV {elt iter tg : Expr} {scope : Scope} {pos : Pos} {I : Addr} {cenv : Env} {c : Bool} {T : Nat → Shared → Prop} {out : Bool → Shared → Prop}
    (hco : cenv.scope.isCoroutine = false)
    (turn : ∀ m s, T m s → wpAny (model prog w) (A.over (.compLoop (.GeneratorExp elt [⟨tg, iter, [], 0⟩] scope pos) 0 (.ref I) .none cenv) []) (pyNext (.ref I)) (fun r s1 => match r with
      | none => out c s1
      | some v => wpAny (model prog w) (A.over (.compLoop (.GeneratorExp elt [⟨tg, iter, [], 0⟩] scope pos) 0 (.ref I) .none cenv) []) (letOwnedTupleGo tg (.ref I) v) (fun _ s2 =>
          wpAny (model prog w) (A.over (.compLoop (.GeneratorExp elt [⟨tg, iter, [], 0⟩] scope pos) 0 (.ref I) .none cenv) []) (assign tg cenv v) (fun _ s3 =>
          wpAny (model prog w) (A.over (.compLoop (.GeneratorExp elt [⟨tg, iter, [], 0⟩] scope pos) 0 (.ref I) .none cenv) []) (eval elt cenv) (fun y s4 => ∃ b, y = .bool b ∧ if b = c then ∃ m', m' < m ∧ T m' s4 else out b s4) (fun _ _ => False) s3) (fun _ _ => False) s2) (fun _ _ => False) s1) (fun _ _ => False) s) :
    ∀ (m n : Nat) (s₀ s : Shared), m < n → T m s →
      Seg (model prog w) A (RV' c out) (YV c T out) n s₀ (.compLoop (.GeneratorExp elt [⟨tg, iter, [], 0⟩] scope pos) 0 (.ref I) .none cenv)
        ((model prog w).den (.compLoop (.GeneratorExp elt [⟨tg, iter, [], 0⟩] scope pos) 0 (.ref I) .none cenv)) [] s := by
  intro m
  induction m using Nat.strongRecOn with
  | ind m ih =>
    intro n s₀ s hn hT
    obtain ⟨n, rfl⟩ : ∃ k, n = k + 1 := ⟨n - 1, by omega⟩
    show Seg _ A _ _ _ s₀ _ ((compTurn (.GeneratorExp elt [⟨tg, iter, [], 0⟩] scope pos) 0 (.ref I) .none cenv).onRaise (leaving cenv)) [] s
    rw [compTurn_gen, Sem.onRaise_eq_wrap]
    refine seg_bind_wrap (wpAny_standAt ?_)
    refine seg_bind_wrap (wpAny_mono (turn m s hT) (fun r s1 h1 => ?_) fun _ _ e => e.elim)
    cases r with
    | none => exact seg_end (.ok .next) ⟨rfl, h1⟩
    | some v =>
      refine seg_bind_wrap (wpAny_mono h1 (fun _ s2 h2 => ?_) fun _ _ e => e.elim)
      refine seg_bind_wrap (wpAny_mono h2 (fun _ s3 h3 => ?_) fun _ _ e => e.elim)
      simp only [List.forIn_nil]
      refine seg_bind_wrap (wpAny_pure ?_)
      simp only [if_true]
      have hy : ∀ v, yieldOut cenv v = yieldValue v := fun v => by simp only [yieldOut, hco, Bool.false_eq_true, if_false]
      simp only [hy]
      rw [Sem.bind_eq_wrap', Sem.bind_eq_wrap', Sem.wrap_wrap, Sem.wrap_wrap]
      refine seg_wrap (wpAny_mono h3 (fun y s4 h4 => ?_) fun _ _ e => e.elim)
      obtain ⟨b, rfl, h4⟩ := h4
      refine seg_at (seg_yield rfl rfl rfl ⟨b, rfl, ?_⟩)
      by_cases e : b = c
      · rw [if_pos e] at h4 ⊢
        obtain ⟨m', hm, t'⟩ := h4
        exact ⟨m', by omega, t', fun s'' t'' => seg_again rfl (ih m' hm n s'' s'' (by omega) t'')⟩
      · rw [if_neg e] at h4 ⊢
        exact h4
theorem seg_startV {elt iter tg : Expr} {scope : Scope} {pos : Pos} {I : Addr} {cenv : Env} {R : GenEnd} {Y : Protocol} {n : Nat} {s₀ s : Shared}
    (self : ∀ (A' : Around) (Q : Value → Shared → Prop) (E : Value → Shared → Prop), Q (.ref I) s → wpAny (model prog w) A' (pyIter (.ref I)) Q E s)
    (loop : Seg (model prog w) A R Y n s₀ (.compLoop (.GeneratorExp elt [⟨tg, iter, [], 0⟩] scope pos) 0 (.ref I) .none cenv)
        ((model prog w).den (.compLoop (.GeneratorExp elt [⟨tg, iter, [], 0⟩] scope pos) 0 (.ref I) .none cenv)) [] s) :
    Seg (model prog w) A R Y n s₀ (.compStart (.GeneratorExp elt [⟨tg, iter, [], 0⟩] scope pos) 0 (.ref I) .none cenv)
        ((model prog w).den (.compStart (.GeneratorExp elt [⟨tg, iter, [], 0⟩] scope pos) 0 (.ref I) .none cenv)) [] s := by
  show Seg _ A _ _ _ s₀ _ ((compStart (.GeneratorExp elt [⟨tg, iter, [], 0⟩] scope pos) 0 (.ref I) .none cenv).onRaise (leaving cenv)) [] s
  unfold compStart
  rw [Sem.onRaise_eq_wrap]
  show Seg _ A _ _ _ s₀ _ ((ask >>= _).wrap _ _ _ _) [] s
  refine seg_bind_wrap (wpAny_askSetting ?_)
  split
  · exact seg_again rfl loop
  · first
      | exact seg_bind_wrap (wpAny_rule (seg_bind_wrap (wpAny_standAt (seg_bind_wrap (self _ _ _ (seg_again rfl loop))))))
      | (refine seg_bind_wrap (wpAny_rule ?_); show Seg _ A _ _ _ s₀ _ ((standAt iter.pos >>= _).wrap _ _ _ _) [] s; exact seg_bind_wrap (wpAny_standAt (seg_bind_wrap (self _ _ _ (seg_again rfl loop)))))
section
variable {a : Addr} {g : Nat} {T : Nat → Shared → Prop} {out : Bool → Shared → Prop} {R : Result → Shared → Prop}
/-- what the consumer asks of the turns' states -/
structure Stab (a : Addr) (g : Nat) (T : Nat → Shared → Prop) (out : Bool → Shared → Prop) : Prop where
  gen : ∀ m s, T m s → s.heap.IsGen a g ∧ s.heap.NoLimit
  set : ∀ m s x, x.bare = true → T m s → T m (s.setGen g x)
  oset : ∀ b s x, x.bare = true → out b s → out b (s.setGen g x)
  keep : ∀ b (s : Shared) h', out b s → (∀ c o, s.heap.get? c = some o → h'.get? c = some o) → out b { s with heap := h' }
theorem all_loopV (hh : A.handled = none) (hd : A.depth < recursionLimit) (S : Stab a g T out) (hR : ∀ b s, out b s → R (.ok (.ret (.bool b))) s) :
    ∀ (n m : Nat) (s : Shared) (gs : GenState), m < n → T m s → s.gens[g]? = some gs → gs.Goes (model prog w) A.in1.in1 (RV' true out) (YV true T out) n (.send .none) (s.setGen g .running) →
      codeAny (model prog w) A (.builtin "all.loop" ⟨[.ref a], []⟩) R s := by
  intro n
  induction n with
  | zero => intro m s gs hm _ _ _; omega
  | succ n ih =>
    intro m s gs hm hT hgs hgo
    obtain ⟨hg, hl⟩ := S.gen m s hT
    have hgl : g + 1 ≤ s.gens.size := (Array.getElem?_eq_some_iff.mp hgs).1
    refine codeAny_builtin F.entry_all_loop ?_
    rw [Around.under_plainId F.plain_all_loop _]
    show wpAny _ A.in1 (pyNext (.ref a) >>= _) _ _ s
    refine wpAny_bind (wpAny_gsz (n := g + 1) hgl (wpAny_pyNext_genexpQ (A := A.in1) (P := fun _ _ s1 => out true s1) hh hl hd hg hgs hgo (fun v s₁ gs' hb hv => ?_) (fun s₁ hp h' hk => ?_)))
    · intro hsz
      obtain ⟨b, rfl, q⟩ := hv
      refine wpAny_bind (wpAny_holding (wpAny_truthy_bool ?_))
      refine wpAny_bind (wpAny_letGo ?_)
      cases b with
      | true =>
        simp only [if_true] at q ⊢
        obtain ⟨m', hm', t', k'⟩ := q
        have hsz1 : g < s₁.gens.size := by
          have e : (s₁.setGen g gs').gens.size = s₁.gens.size := setGen_size _ _ _
          omega
        refine wpAny_pure ⟨plainId_quiet F.plain_all_loop _, ih m' _ gs' (by omega) (S.set _ _ _ hb t') (setGen_at hsz1) (k' _ (S.set _ _ _ rfl (S.set _ _ _ hb t')))⟩
      | false =>
        simp only [Bool.false_eq_true, if_false] at q ⊢
        exact wpAny_bind (wpAny_rule (wpAny_pure (hR _ _ (S.oset _ _ _ hb q))))
    · intro _
      exact wpAny_bind (wpAny_rule (wpAny_pure (hR _ _ (S.keep _ _ _ (S.oset _ _ _ rfl hp) hk))))
theorem any_loopV (hh : A.handled = none) (hd : A.depth < recursionLimit) (S : Stab a g T out) (hR : ∀ b s, out b s → R (.ok (.ret (.bool b))) s) :
    ∀ (n m : Nat) (s : Shared) (gs : GenState), m < n → T m s → s.gens[g]? = some gs → gs.Goes (model prog w) A.in1.in1 (RV' false out) (YV false T out) n (.send .none) (s.setGen g .running) →
      codeAny (model prog w) A (.builtin "any.loop" ⟨[.ref a], []⟩) R s := by
  intro n
  induction n with
  | zero => intro m s gs hm _ _ _; omega
  | succ n ih =>
    intro m s gs hm hT hgs hgo
    obtain ⟨hg, hl⟩ := S.gen m s hT
    have hgl : g + 1 ≤ s.gens.size := (Array.getElem?_eq_some_iff.mp hgs).1
    refine codeAny_builtin F.entry_any_loop ?_
    rw [Around.under_plainId F.plain_any_loop _]
    show wpAny _ A.in1 (pyNext (.ref a) >>= _) _ _ s
    refine wpAny_bind (wpAny_gsz (n := g + 1) hgl (wpAny_pyNext_genexpQ (A := A.in1) (P := fun _ _ s1 => out false s1) hh hl hd hg hgs hgo (fun v s₁ gs' hb hv => ?_) (fun s₁ hp h' hk => ?_)))
    · intro hsz
      obtain ⟨b, rfl, q⟩ := hv
      refine wpAny_bind (wpAny_holding (wpAny_truthy_bool ?_))
      refine wpAny_bind (wpAny_letGo ?_)
      cases b with
      | false =>
        simp only [if_true] at q
        simp only [Bool.false_eq_true, if_false]
        obtain ⟨m', hm', t', k'⟩ := q
        have hsz1 : g < s₁.gens.size := by
          have e : (s₁.setGen g gs').gens.size = s₁.gens.size := setGen_size _ _ _
          omega
        refine wpAny_pure ⟨plainId_quiet F.plain_any_loop _, ih m' _ gs' (by omega) (S.set _ _ _ hb t') (setGen_at hsz1) (k' _ (S.set _ _ _ rfl (S.set _ _ _ hb t')))⟩
      | true =>
        have q : out true s₁ := by simpa using q
        simp only [if_true]
        exact wpAny_bind (wpAny_rule (wpAny_pure (hR _ _ (S.oset _ _ _ hb q))))
    · intro _
      exact wpAny_bind (wpAny_rule (wpAny_pure (hR _ _ (S.keep _ _ _ (S.oset _ _ _ rfl hp) hk))))
/-- all(g), any(g) -/
theorem call_allV {E : Value → Shared → Prop} {Q : Value → Shared → Prop} {s : Shared} {m n : Nat} {gs : GenState} (hh : A.handled = none) (hd : A.depth < recursionLimit) (S : Stab a g T out) (hQ : ∀ b s, out b s → Q (.bool b) s)
    (hm : m < n) (hT : T m s) (hgs : s.gens[g]? = some gs) (hgo : gs.Goes (model prog w) A.in1.in1 (RV' true out) (YV true T out) n (.send .none) (s.setGen g .running)) :
    wpAny (model prog w) A (call (.builtin "all") [.ref a]) Q E s := by
  refine call_function_tree F.kind_all F.plain_all F.entry_all (F.args_all1 _) ?_
  unfold Builtin.«all»
  refine wpAny_bind (m := oneArg "all" _) (wpAny_pure ?_)
  refine wpAny_bind (wpAny_pyIter_gen (S.gen m s hT).1 ?_)
  exact wpAny_pure ⟨plainId_quiet F.plain_all_loop _, all_loopV hh hd S (fun b s h => hQ b s h) n m s gs hm hT hgs hgo⟩
theorem call_anyV {E : Value → Shared → Prop} {Q : Value → Shared → Prop} {s : Shared} {m n : Nat} {gs : GenState} (hh : A.handled = none) (hd : A.depth < recursionLimit) (S : Stab a g T out) (hQ : ∀ b s, out b s → Q (.bool b) s)
    (hm : m < n) (hT : T m s) (hgs : s.gens[g]? = some gs) (hgo : gs.Goes (model prog w) A.in1.in1 (RV' false out) (YV false T out) n (.send .none) (s.setGen g .running)) :
    wpAny (model prog w) A (call (.builtin "any") [.ref a]) Q E s := by
  refine call_function_tree F.kind_any F.plain_any F.entry_any (F.args_any1 _) ?_
  unfold Builtin.«any»
  refine wpAny_bind (m := oneArg "any" _) (wpAny_pure ?_)
  refine wpAny_bind (wpAny_pyIter_gen (S.gen m s hT).1 ?_)
  exact wpAny_pure ⟨plainId_quiet F.plain_any_loop _, any_loopV hh hd S (fun b s h => hQ b s h) n m s gs hm hT hgs hgo⟩
end
end
end DL
set_option Elab.async false
set_option linter.all false
set_option maxRecDepth 100000
set_option maxHeartbeats 4000000
namespace L2
/-- the context of a generator expression's turns -/
abbrev Cx.gblk (X : Cx) (s : PySem.Shared) (H : Hp) (cenv : PySem.Env) (A : PySem.Around) (fp : List PySem.Addr) (pn : List (PySem.Addr × PySem.Obj)) : Cx :=
  { X with s_0 := s, H_0 := H, env := cenv, A := A, outer := X.stack, stack := cenv :: X.stack, ex := fp, fn := fun _ => false, pn := pn, xe := fun _ _ => False }
end L2
namespace DL
open PySem PySem.Spec PyProof.Rows L2 GenW
open Sem (wp)
/-- the around of a generator's turns, in that of its consumer -/
structure GAr (A AG : Around) (cenv : Env) : Prop where
  handled : AG.handled = A.handled
  depth : AG.depth ≤ A.depth + 1
  units : AG.units ≤ A.units + 8
  guards : AG.guards = A.guards
  frames : ∀ l, A.frames = some l → AG.frames = some (cenv :: l)
theorem gar_of {A : Around} {elt iter tg : Expr} {scope : Scope} {pos : Pos} {it : Value} {cenv : Env} : GAr A (A.in1.in1.over (.compLoop (.GeneratorExp elt [⟨tg, iter, [], 0⟩] scope pos) 0 it .none cenv) []) cenv := by
  refine ⟨rfl, ?_, ?_, ?_, fun l e => ?_⟩
  · exact Nat.le_of_eq rfl
  · show A.units + 1 + 1 + _ + _ ≤ _
    simp [unitsOf, Code.cUnits]
    show A.units + 1 + 1 + 3 * 1 ≤ A.units + 8
    omega
  · obtain ⟨_, _, _, gs, _⟩ := A
    cases gs <;> rfl
  · obtain ⟨_, _, fr, _, _⟩ := A
    cases (show fr = some l from e)
    rfl
section
variable {X : Cx} {pins : List (Addr × Obj)} {σ : L2.St} {H : Hp} {s : Shared}
theorem gblock_start {scope : Scope} {own : List (Str × Nat)} {fp : List Addr} {code : Value} {AG : Around} {it : Value} {h' : Heap} {gs : GenState} {tk : Nat} {go : Obj} (I : Inv X pins σ H s) (hc : X.calm = true) (ok : BlkOk X.N X.env.scope scope own) (hcell : ∀ y ∈ scope.names, y.2 ≠ .cell) (hN : X.N.Nodup)
    (hfp : ∀ b ∈ fp, FpOk X pins H b ∧ b < s.heap.objs.size) (hA : GAr X.A AG (genEnv scope (cloFrom X.env.cells scope.names []) s.heap.objs.size code builtinsNs X.env))
    (hn : h'.Ns s.heap.objs.size (fun y => if y = ".0" then some it else none)) (hs : Heap.SameBut s.heap.objs.size (s.heap.push { cls := .type "frame", data := .dict #[] }) h') (hb : gs.bare = true)
    (hgo : (h'.push go).get? h'.objs.size = some go) (hgc : ∀ v, go.data ≠ .cell v) :
    Inv (X.gblk s H (genEnv scope (cloFrom X.env.cells scope.names []) s.heap.objs.size code builtinsNs X.env) AG fp [(h'.objs.size, go)]) [] (wipe σ (own.map (·.2))) H { s with gens := s.gens.push gs, toks := tk, heap := h'.push go } := by
  have hfree : ∀ y ∈ scope.names, y.2 = .free → ∃ c, X.env.cells.lookup y.1 = some c := fun y hy e => by
    rcases ok.free y hy e with k | k
    · exact I.ok.has _ (.inl k)
    · exact I.ok.has _ (.inr k)
  have hsz : h'.objs.size = s.heap.objs.size + 1 := by rw [hs.1, Heap.size_push]
  have kp' : ∀ b o, s.heap.get? b = some o → h'.get? b = some o := fun b o e => hs.extBut b o (Nat.ne_of_lt (Heap.lt_size e)) (Heap.get?_push_of_some _ e)
  have kp : ∀ b o, s.heap.get? b = some o → (h'.push go).get? b = some o := fun b o e => Heap.get?_push_of_some _ (kp' b o e)
  generalize hcenv : genEnv scope (cloFrom X.env.cells scope.names []) s.heap.objs.size code builtinsNs X.env = cenv at hA ⊢
  have hL : cenv.locals = s.heap.objs.size := by rw [← hcenv]; rfl
  have hcl : cenv.cells = cloFrom X.env.cells scope.names [] := by rw [← hcenv]; rfl
  have hsc : cenv.scope = scope := by rw [← hcenv]; rfl
  have cm : ∀ {y c}, cenv.cells.lookup y = some c → X.env.cells.lookup y = some c ∧ c < s.heap.objs.size ∧ (y, NameKind.free) ∈ scope.names := fun {y c} e => by
    rw [hcl] at e
    rcases cloFrom_mem (PySem.mem_of_lookup e) with hm | ⟨h1, rfl⟩
    · cases hm
    · obtain ⟨c, hc⟩ := hfree _ h1 rfl
      rw [hc]
      obtain ⟨w, z⟩ := I.cell _ _ hc
      exact ⟨rfl, z.lt, h1⟩
  have look : ∀ {y}, scope.names.lookup y = some .free → ∃ c, cenv.cells.lookup y = some c := fun {y} hl => by
    have hy : (y, NameKind.free) ∈ scope.names := PySem.mem_of_lookup hl
    obtain ⟨c', e'⟩ := mem_lookup (cloFrom_has (cells := X.env.cells) (acc := []) hy)
    exact ⟨c', by rw [hcl]; exact e'⟩
  have nocell : ∀ {y}, ¬ scope.names.lookup y = some .cell := fun {y} e => hcell _ (PySem.mem_of_lookup e) rfl
  have stkLt : ∀ b ∈ frs X.stack, b < s.heap.objs.size := fun b hb => by
    rcases List.mem_cons.mp (I.stkSub b hb) with z | z
    · rw [z]; exact I.lt
    · exact Nat.lt_of_not_le fun q => I.nofs q z
  have okB : (X.gblk s H cenv AG fp [(h'.objs.size, go)]).Ok := by
    refine ⟨I.ok.mod, by show cenv.scope.kind = _; rw [hsc]; exact ok.kind, by show cenv.globals = _; rw [← hcenv]; exact I.ok.glob, by show cenv.builtins = _; rw [← hcenv]; rfl, by show s.heap.objs.size ≤ cenv.locals; rw [hL]; exact Nat.le_refl _,
      fun y z c e1 e2 => I.ok.inj y z c (cm e1).1 (cm e2).1, fun y hy => ?_, fun y c z e => (by cases z), fun _ => hA.handled.trans (I.ok.hd hc), hA.frames _ I.ok.frames, .inr ⟨rfl, ?_⟩, fun b hb => ⟨?_, fun y c e z => ?_⟩, I.bs, Nat.le_trans I.ok.bsz I.sz, fun b o e hb => ?_, fun b hb z => ?_, I.stack, I.stkFree⟩
    · show ∃ c, cenv.cells.lookup y = some c
      have hy : scope.names.lookup y = some .cell ∨ scope.names.lookup y = some .free := by rw [← hsc]; exact hy
      rcases hy with hy | hy
      · exact absurd hy nocell
      · exact look hy
    · show cenv.frame = some cenv.locals
      rw [← hcenv]; rfl
    · show b ≠ cenv.locals
      rw [hL]; exact Nat.ne_of_lt (hfp b hb).2
    · exact (hfp b hb).1.2.2.2.2.1 y c (cm e).1 z
    · rcases (hfp b hb).1.2.2.2.1 with z | z
      · exact I.ok.noex b o e z
      · exact absurd (Nat.lt_of_lt_of_le (Heap.lt_size e) (Nat.le_trans I.ok.bsz z)) (Nat.lt_irrefl _)
    · rcases List.mem_cons.mp (I.stkSub b z) with z | z
      · exact (hfp b hb).1.2.1 z
      · exact (hfp b hb).1.2.2.1 z
  refine ⟨okB, rfl, I.bare.push hb, Un.kept kp, ⟨fun y => if y = ".0" then some it else none, ?_, fun i y av e1 e2 e3 => ?_⟩, fun y c e => ?_, ?_, fun y c e => ?_, fun p hp => ?_, I.hok.kept kp, by rw [wipe_length]; exact I.len⟩
  · show Heap.Ns _ cenv.locals _
    rw [hL]
    exact hn.push _
  · obtain ⟨e2, hne⟩ := wipe_some e2
    have no : ∀ k, scope.names.lookup y = some k → ¬ (k = .local ∨ k = .cell) := fun k e hh => by
      rcases ok.own _ (PySem.mem_of_lookup e) hh with e' | e'
      · obtain ⟨p, hp, hpy⟩ := List.mem_map.mp e'
        have e3 := ok.ix p hp
        have : p.1 = y := hpy
        rw [this] at e3
        exact hne (List.mem_map.mpr ⟨p, hp, nodup_ix hN e3 e1⟩)
      · exact e' (List.mem_of_getElem? e1)
    have e3 : scope.names.lookup y = some .local ∨ scope.names.lookup y = some .cell ∨ scope.names.lookup y = some .free := by rw [← hsc]; exact e3
    have hf : scope.names.lookup y = some .free := by
      rcases e3 with e | e | e
      · exact absurd (.inl rfl) (no _ e)
      · exact absurd (.inr rfl) (no _ e)
      · exact e
    obtain ⟨m, hn, hl⟩ := I.loc
    have hvis : Vis X.env.scope y := (ok.free _ (PySem.mem_of_lookup hf) rfl).elim (fun k => .inr (.inl k)) (fun k => .inr (.inr k))
    obtain ⟨w, r, q⟩ := hl i y av e1 e2 hvis
    refine ⟨w, r, .inr ⟨.inr (by show cenv.scope.names.lookup y = _; rw [hsc]; exact hf), ?_⟩⟩
    obtain ⟨c, h1⟩ := look hf
    rcases q with ⟨k, _⟩ | ⟨_, c', e', z⟩
    · have k : X.env.scope.names.lookup y = some .local := k
      rcases ok.free _ (PySem.mem_of_lookup hf) rfl with k' | k' <;> rw [show X.env.scope.names.lookup y = _ from k'] at k <;> cases k
    · have := (cm h1).1
      rw [e'] at this
      cases this
      exact ⟨c, h1, z.keeps kp⟩
  · have e : cenv.cells.lookup y = some c := e
    obtain ⟨w, z⟩ := I.cell y c (cm e).1
    exact ⟨w, z.keeps kp⟩
  · show H cenv.locals = none
    rw [hL]; exact I.hok.fresh (Nat.le_refl _)
  · exact I.freeC y c (cm e).1
  · have hp : p ∈ [(h'.objs.size, go)] ++ [] := hp
    rw [List.append_nil] at hp
    rw [List.mem_singleton.mp hp]
    have le : s.heap.objs.size ≤ h'.objs.size := by rw [hsz]; exact Nat.le_succ _
    refine ⟨hgo, I.hok.fresh le, ?_, fun z => ?_, hgc⟩
    · show h'.objs.size ≠ cenv.locals
      rw [hL, hsz]; exact Nat.succ_ne_self _
    · exact absurd (Nat.lt_of_lt_of_le (stkLt _ z) le) (Nat.lt_irrefl _)
theorem inv_setGen (I : Inv X pins σ H s) {g : Nat} {x : GenState} (hx : x.bare = true) : Inv X pins σ H (s.setGen g x) :=
  I.call' (s' := s.setGen g x) (ch := []) rfl Un.refl I.hok (allBare_setGen I.bare hx) fun b z => by simp at z
/-- what a generator's consumer wants: turn by turn; c goes on -/
def tGenV (c : Bool) (P : Addr) (wi : TI) (g : TG) (te : TE) (vs : List Nat) : TE := fun σ H Q => wi σ H fun J H1 => GxR.TabG H1 P ∧ ∀ H2, GxR.Tabbed P H1 H2 → ∃ W : Nat → Nat → Hp → Prop, (∃ m, W 0 m H2) ∧ ∀ i m H, W i m H →
  (J.stop i H ∧ Q (.bl c) H) ∨ (J.go i H ∧ ∀ x H', J.yld i H x H' → g x (wipe σ vs) H' fun σ2 H3 => wipe σ2 vs = wipe σ vs ∧ te σ2 H3 fun y H4 => ∃ b, y = .bl b ∧ if b = c then ∃ m', m' < m ∧ W (i + 1) m' H4 else Q (.bl b) H4)
/-- the generator is made, its turns are known -/
theorem gen_coreV {elt tg iter : Expr} {scope : Scope} {own : List (Str × Nat)} {pos : Pos} {wi : TI} {g : TG} {te : TE} {cc P : Addr} {c : Bool} {k : Nat} {Q : VK}
    (hc : X.calm = true) (hN : X.N.Nodup) (hr : Room k X.A) (TB : GxR.TabB X.base X.mg cc P) (hcode : X.env.code = .ref cc) (I : Inv X pins σ H s) (hi : PI X tg iter wi) (ok : BlkOk X.N X.env.scope scope own) (hco : scope.isCoroutine = false) (hcell : ∀ y ∈ scope.names, y.2 ≠ .cell) (h0 : scope.names.lookup (".0" : Str) = some NameKind.local)
    (hg : ∀ (s : Shared) (H : Hp) (C : Addr) (code : Value) (AG : Around) (fp : List Addr) (pn : List (Addr × Obj)), GAr X.A AG (genEnv scope (cloFrom X.env.cells scope.names []) C code builtinsNs X.env) → PG (X.gblk s H (genEnv scope (cloFrom X.env.cells scope.names []) C code builtinsNs X.env) AG fp pn) tg g)
    (he : ∀ (s : Shared) (H : Hp) (C : Addr) (code : Value) (AG : Around) (fp : List Addr) (pn : List (Addr × Obj)), GAr X.A AG (genEnv scope (cloFrom X.env.cells scope.names []) C code builtinsNs X.env) → PE (X.gblk s H (genEnv scope (cloFrom X.env.cells scope.names []) C code builtinsNs X.env) AG fp pn) elt te)
    (hs : ∀ v, genFold iter X.env v = pure v) (h : tGenV c P wi g te (own.map (·.2)) σ H Q) :
    wpAny (model X.prog X.w) X.A (eval (.GeneratorExp elt [⟨tg, iter, [], 0⟩] scope pos) X.env) (fun v s5 => ∃ (a : Addr) (gn : Nat) (T : Nat → Shared → Prop) (out : Bool → Shared → Prop) (m n : Nat) (gs : GenState), v = .ref a ∧ Stab a gn T out ∧ m < n ∧ T m s5 ∧ s5.gens[gn]? = some gs ∧
      gs.Goes (model X.prog X.w) X.A.in1.in1 (RV' c out) (YV c T out) n (.send .none) (s5.setGen gn .running) ∧ ∀ b s', out b s' → ∃ H', Inv X pins σ H' s' ∧ Q (.bl b) H') X.xe s := by
  have hfree : ∀ y ∈ scope.names, y.2 = .free → ∃ c, X.env.cells.lookup y.1 = some c := fun y hy e => by
    rcases ok.free y hy e with k | k
    · exact I.ok.has _ (.inl k)
    · exact I.ok.has _ (.inr k)
  refine wpAny_GeneratorExp_make hco (closure_ok hfree) hcell h0 ok.kind (by have := hr.dp; omega) ?_ hs
  refine thn (hi.run pins s σ H _ I h) fun xv s1 h1 => ?_
  refine thn h1 fun itv s2 h2 => ?_
  obtain ⟨it, fp, tn, J, H2, rfl, I2, T, st2, f2, ⟨ps, hP, ht⟩, q⟩ := h2
  refine ⟨I2.nolimit, ?_⟩
  have atP : s2.heap.get? P = some { cls := .none, data := .fields ps } := I2.hok P _ hP
  have cd : PySem.W.CodeHd s2.heap cc P := TB.code.keeps fun b u e => I2.bk b u e
  have nP : ∀ b ∈ fp, b ≠ P := fun b hb z => by
    have := (f2 b hb).1
    rw [z, hP] at this
    cases this
  have go : ∀ (code : Value) (h3 : Heap) (tk : Nat) (ps' : Array Value), Heap.ExtBut P s2.heap h3 → s2.heap.objs.size ≤ h3.objs.size → h3.get? P = some { cls := .none, data := .fields ps' } → (∃ more, ps' = ps ++ more) → TriplesOk ps'.toList →
      wpAny (model X.prog X.w) X.A (builtinsFor X.env.globals X.env.builtins) (fun bi s₄ =>
        ∀ h', h'.Ns s₄.heap.objs.size (fun y => if y = ".0" then some (.ref it) else none) → Heap.SameBut s₄.heap.objs.size (s₄.heap.push { cls := .type "frame", data := .dict #[] }) h' →
          ∃ (a : Addr) (gn : Nat) (T : Nat → Shared → Prop) (out : Bool → Shared → Prop) (m n : Nat) (gs : GenState), Value.ref h'.objs.size = .ref a ∧ Stab a gn T out ∧ m < n ∧
            T m { s₄ with gens := s₄.gens.push (.fresh (.compStart (.GeneratorExp elt [⟨tg, iter, [], 0⟩] scope pos) 0 (.ref it) .none (genEnv scope (cloFrom X.env.cells scope.names []) s₄.heap.objs.size code bi X.env))), toks := s₄.toks + 1 + 1 + 1, heap := h'.push { cls := .type "generator", data := .fields #[.int s₄.gens.size 0, .str "<genexpr>" (s₄.toks + 1), .str (X.env.qual ++ "<genexpr>") (s₄.toks + 1 + 1)] } } ∧
            (s₄.gens.push (.fresh (.compStart (.GeneratorExp elt [⟨tg, iter, [], 0⟩] scope pos) 0 (.ref it) .none (genEnv scope (cloFrom X.env.cells scope.names []) s₄.heap.objs.size code bi X.env))))[gn]? = some gs ∧
            gs.Goes (model X.prog X.w) X.A.in1.in1 (RV' c out) (YV c T out) n (.send .none) (Shared.setGen { s₄ with gens := s₄.gens.push (.fresh (.compStart (.GeneratorExp elt [⟨tg, iter, [], 0⟩] scope pos) 0 (.ref it) .none (genEnv scope (cloFrom X.env.cells scope.names []) s₄.heap.objs.size code bi X.env))), toks := s₄.toks + 1 + 1 + 1, heap := h'.push { cls := .type "generator", data := .fields #[.int s₄.gens.size 0, .str "<genexpr>" (s₄.toks + 1), .str (X.env.qual ++ "<genexpr>") (s₄.toks + 1 + 1)] } } gn .running) ∧
            ∀ b s', out b s' → ∃ H', Inv X pins σ H' s' ∧ Q (.bl b) H') X.xe { s2 with heap := h3, toks := tk } := by
    rintro code h3 tk _ grown big atP3 ⟨more, rfl⟩ ht3
    obtain ⟨bm, ob, e1, e2, e3, e4, e5, e6, e7, e8⟩ := TB.bm
    have keep : ∀ b u, b ≠ P → s2.heap.get? b = some u → h3.get? b = some u := fun b u n e => grown b u n e
    refine wpAny_builtinsFor (m := X.mg) (by rw [I2.ok.glob]; exact (I2.mod.glob.keeps I2.bk).extBut grown TB.gP) e1 e2 (keep _ _ e4 (I2.bk _ _ e5)) e6 e7 e8 ?_
    intro h' hn hsb
    have I3 : Inv X pins σ (upd H2 P (.tbl (ps ++ more))) { s2 with heap := h3, toks := tk } := GxR.inv_tab (g' := s2.gens) (d' := s2.drawn) I2 hP keep atP3 I2.bare
    have f3 : ∀ b ∈ fp, FpOk X pins (upd H2 P (.tbl (ps ++ more))) b ∧ b < h3.objs.size := fun b hb => by
      obtain ⟨o, e, _⟩ := T.obj _ _ st2 b hb
      refine ⟨⟨?_, (f2 b hb).2⟩, Nat.lt_of_lt_of_le (Heap.lt_size e) big⟩
      rw [upd_ne (nP b hb)]
      exact (f2 b hb).1
    have st3 : tn 0 h3 := T.keep _ _ _ st2 fun b hb o e => keep b o (nP b hb) e
    obtain ⟨W, ⟨m0, w0⟩, turn⟩ := q (upd H2 P (.tbl (ps ++ more))) ⟨⟨ps ++ more, upd_same, ht3⟩, fun b n => upd_ne n⟩
    generalize hH3 : upd H2 P (.tbl (ps ++ more)) = H3 at I3 f3 w0
    generalize hs3 : ({ s2 with heap := h3, toks := tk } : Shared) = s3 at I3 hn hsb ⊢
    have e3h : s3.heap = h3 := by rw [← hs3]
    rw [← e3h] at f3 st3
    generalize hgo : ({ cls := .type "generator", data := .fields #[.int s3.gens.size 0, .str "<genexpr>" (s3.toks + 1), .str (X.env.qual ++ "<genexpr>") (s3.toks + 1 + 1)] } : Obj) = gob
    have hgA : GAr X.A (X.A.in1.in1.over (.compLoop (.GeneratorExp elt [⟨tg, iter, [], 0⟩] scope pos) 0 (.ref it) .none (genEnv scope (cloFrom X.env.cells scope.names []) s3.heap.objs.size code builtinsNs X.env)) []) (genEnv scope (cloFrom X.env.cells scope.names []) s3.heap.objs.size code builtinsNs X.env) := gar_of
    have hgp : (h'.push gob).get? h'.objs.size = some gob := by
      subst hgo
      exact Heap.get?_push_size _ rfl
    have hgd : ∀ v, gob.data ≠ .cell v := fun v z => by
      subst hgo
      cases z
    have I5 := gblock_start (tk := s3.toks + 1 + 1 + 1) (gs := .fresh (.compStart (.GeneratorExp elt [⟨tg, iter, [], 0⟩] scope pos) 0 (.ref it) .none (genEnv scope (cloFrom X.env.cells scope.names []) s3.heap.objs.size code builtinsNs X.env))) I3 hc ok hcell hN f3 hgA hn hsb rfl hgp hgd
    have pg := hg s3 H3 s3.heap.objs.size code _ fp [(h'.objs.size, gob)] hgA
    have pe := he s3 H3 s3.heap.objs.size code _ fp [(h'.objs.size, gob)] hgA
    have hcsc : (genEnv scope (cloFrom X.env.cells scope.names []) s3.heap.objs.size code builtinsNs X.env).scope.isCoroutine = false := hco
    generalize hce : genEnv scope (cloFrom X.env.cells scope.names []) s3.heap.objs.size code builtinsNs X.env = ce at I5 pg pe hgA hcsc ⊢
    generalize hAG : X.A.in1.in1.over (.compLoop (.GeneratorExp elt [⟨tg, iter, [], 0⟩] scope pos) 0 (.ref it) .none ce) [] = AG at I5 pg pe hgA
    have kp5 : ∀ b o, s3.heap.get? b = some o → (h'.push gob).get? b = some o := fun b o e => Heap.get?_push_of_some _ (hsb.extBut b o (Nat.ne_of_lt (Heap.lt_size e)) (Heap.get?_push_of_some _ e))
    have st5 : tn 0 (h'.push gob) := T.keep _ _ _ st3 fun b hb o e => kp5 b o e
    have nfp : ∀ b ∈ fp, H3 b = none := fun b hb => (f3 b hb).1.1
    have nea : ∀ b ∈ fp, h'.objs.size ≠ b := fun b hb z => by
      have h1 := (f3 b hb).2
      have h2 : h'.objs.size = s3.heap.objs.size + 1 := by rw [hsb.1, Heap.size_push]
      rw [← z, h2] at h1
      exact absurd (Nat.lt_of_succ_lt h1) (Nat.lt_irrefl _)
    have stat : ∀ {σ' : L2.St} {H' : Hp} {s' : Shared}, Inv (X.gblk s3 H3 ce AG fp [(h'.objs.size, gob)]) [] σ' H' s' → (∀ b ∈ fp, H' b = none) → ∀ b ∈ fp, FpOk (X.gblk s3 H3 ce AG fp [(h'.objs.size, gob)]) [] H' b := fun {σ' H' s'} I' hn b hb =>
      ⟨hn b hb, (I'.ok.exf b hb).1, I'.ok.exfs b hb, .inl hb, fun x c e => (I'.ok.exf b hb).2 x c e, fun p hp => by
        have hp : p ∈ [(h'.objs.size, gob)] ++ [] := hp
        rw [List.append_nil] at hp
        rw [List.mem_singleton.mp hp]
        exact nea b hb⟩
    have isg : ∀ {σ' : L2.St} {H' : Hp} {s' : Shared}, Inv (X.gblk s3 H3 ce AG fp [(h'.objs.size, gob)]) [] σ' H' s' → s'.heap.IsGen h'.objs.size s3.gens.size := fun {σ' H' s'} I' => by
      have e := (I'.pin (h'.objs.size, gob) (List.mem_append_left _ (List.mem_singleton.mpr rfl))).1
      subst hgo
      exact ⟨_, _, _, e, rfl, rfl, rfl⟩
    let TT : Nat → Shared → Prop := fun m s' => ∃ i H', Inv (X.gblk s3 H3 ce AG fp [(h'.objs.size, gob)]) [] (wipe σ (own.map (·.2))) H' s' ∧ tn i s'.heap ∧ (∀ b ∈ fp, H' b = none) ∧ W i m H'
    let OO : Bool → Shared → Prop := fun b s' => ∃ σ' H', Inv (X.gblk s3 H3 ce AG fp [(h'.objs.size, gob)]) [] σ' H' s' ∧ Q (.bl b) H'
    have stab : Stab h'.objs.size s3.gens.size TT OO := by
      refine ⟨fun m s' ⟨i, H', I', _, _, _⟩ => ⟨isg I', I'.nolimit⟩, fun m s' x hx ⟨i, H', I', t', n', w'⟩ => ⟨i, H', inv_setGen I' hx, t', n', w'⟩, fun b s' x hx ⟨σ', H', I', q'⟩ => ⟨σ', H', inv_setGen I' hx, q'⟩, fun b s' h2 ⟨σ', H', I', q'⟩ hk => ⟨σ', H', I'.kept (t' := s'.toks) hk, q'⟩⟩
    have hT5 : TT m0 { s3 with gens := s3.gens.push (.fresh (.compStart (.GeneratorExp elt [⟨tg, iter, [], 0⟩] scope pos) 0 (.ref it) .none ce)), toks := s3.toks + 1 + 1 + 1, heap := h'.push gob } := ⟨0, H3, I5, st5, nfp, w0⟩
    refine ⟨h'.objs.size, s3.gens.size, TT, OO, m0, m0 + 1, .fresh (.compStart (.GeneratorExp elt [⟨tg, iter, [], 0⟩] scope pos) 0 (.ref it) .none ce), rfl, stab, Nat.lt_succ_self _, hT5, Array.getElem?_push_size .., ⟨rfl, ?_⟩, fun b s' ⟨σ', H', I', q'⟩ => ⟨H', ?_, q'⟩⟩
    · have hT6 := stab.set _ _ .running rfl hT5
      refine seg_startV (fun A' Q' E' hq => T.self A' 0 _ _ _ st5 hq) ?_
      refine seg_loopV (T := TT) (out := OO) hcsc (fun m s6 ⟨i, H6, I6, st6, n6, w6⟩ => ?_) m0 (m0 + 1) _ _ (Nat.lt_succ_self _) hT6
      rw [hAG]
      rcases turn i m H6 w6 with ⟨stop, qq⟩ | ⟨go, step⟩
      · have td := T.done (X.gblk s3 H3 ce AG fp [(h'.objs.size, gob)]) rfl rfl rfl hc i [] s6 _ H6 (fun _ _ => False) I6 (stat I6 n6) st6 stop
        refine wpAny_mono td (fun r s7 ⟨hr, I7⟩ => ?_) fun _ _ z => z
        subst hr
        exact ⟨_, H6, I7, qq⟩
      · have ti := T.item (X.gblk s3 H3 ce AG fp [(h'.objs.size, gob)]) rfl rfl rfl hc i [] s6 _ H6 (fun _ _ => False) I6 (stat I6 n6) st6 go
        refine wpAny_mono ti (fun r s7 ⟨u, hr, h7⟩ => ?_) fun _ _ z => z
        subst hr
        refine wpAny_mono h7 (fun _ s8 ⟨x, H8, I8, r8, y8, st8, n8⟩ => ?_) fun _ _ z => z
        have I8' := I8.pinned (stat I8 n8) (T.obj _ _ st8)
        refine wpAny_mono (pg.run _ s8 _ H8 x u _ I8' r8 (step x H8 y8)) (fun _ s9 ⟨σ9, H9, I9, hw9, q9⟩ => ?_) fun _ _ z => z
        refine wpAny_mono (pe.run _ s9 σ9 H9 _ I9 q9) (fun z s10 ⟨yv, H10, I10, r10, b, hb, nx⟩ => ?_) fun _ _ z => z
        subst hb
        refine ⟨b, r10, ?_⟩
        by_cases e : b = c
        · rw [if_pos e] at nx ⊢
          obtain ⟨m', hm, w'⟩ := nx
          have pin' : ∀ b ∈ fp, ∀ o, s8.heap.get? b = some o → s10.heap.get? b = some o ∧ H10 b = none := fun b hb o e =>
            let z := I10.pin (b, o) (List.mem_append_right _ (List.mem_append_right _ (mem_pinsAt hb e)))
            ⟨z.1, z.2.1⟩
          have hl : (wipe σ (own.map (·.2))).length = σ9.length := by rw [← hw9, wipe_length]
          refine ⟨m', hm, i + 1, H10, (I10.unpinned (pins := [])).weak hl (fun j v e => ?_), T.keep _ _ _ st8 fun b hb o e => (pin' b hb o e).1, fun b hb => ?_, w'⟩
          · rw [← hw9] at e
            exact (wipe_some e).1
          · obtain ⟨o, e, _⟩ := T.obj _ _ st8 b hb
            exact (pin' b hb o e).2
        · rw [if_neg e] at nx ⊢
          exact ⟨σ9, H10, I10.unpinned (pins := []), nx⟩
    · exact I3.call' (ch := fp) I'.os I'.base I'.hok I'.bare fun b hb => ⟨(f3 b hb).1.2.2.2.1, (f3 b hb).1.2.1, (f3 b hb).1.2.2.2.2.1, (f3 b hb).1.2.2.2.2.2⟩
  cases hf : codeAmong pos ps.toList with
  | some cv => exact wpAny_genexprCode_hit hcode (cd.code atP ht) hf (go cv _ s2.toks ps (Heap.ExtBut.refl _ _) (Nat.le_refl _) atP ⟨#[], by simp⟩ ht)
  | none =>
    refine wpAny_genexprCodeX hcode (cd.code atP ht) (cd.tab atP) hf ?_
    intro c' h' tk hx hge hlt hco' _ htab' _
    obtain ⟨o1, vs, f1, tf, fl, tg, inF, tx, tt, op, _, _, _, _, _, _, _, _, _, htr, _⟩ := hco'
    exact go _ h' tk _ hx (Nat.le_trans hge (Nat.le_of_lt hlt)) htab'.2 ⟨_, rfl⟩ htr
end
end DL
set_option Elab.async false
set_option linter.all false
set_option maxRecDepth 100000
set_option maxHeartbeats 4000000
namespace DL
open PySem PySem.Spec PyProof.Rows L2 GenW
variable [Tb]
section
variable {X : Cx} {a e tg iter elt : Expr} {pos p gpos : Pos} {g : WG} {we : WR} {is vs : List Nat} {scope : Scope} {own : List (Str × Nat)} {cb : Bool} {P cc : Addr} {fd : FuncData} {k : Nat}
/-- a generator expression under all (c is true) or any (c is false) -/
structure EvGn (X : Cx) (c : Bool) (P : Addr) (elt tg iter : Expr) (scope : Scope) (w : WR) : Prop where
  ex : ∃ (own : List (Str × Nat)) (wi : TI) (g : TG) (te : TE), PI X tg iter wi ∧ BlkOk X.N X.env.scope scope own ∧
    (∀ (s : Shared) (H : Hp) (C : Addr) (code : Value) (AG : Around) (fp : List Addr) (pn : List (Addr × Obj)), GAr X.A AG (genEnv scope (cloFrom X.env.cells scope.names []) C code builtinsNs X.env) → PG (X.gblk s H (genEnv scope (cloFrom X.env.cells scope.names []) C code builtinsNs X.env) AG fp pn) tg g) ∧
    (∀ (s : Shared) (H : Hp) (C : Addr) (code : Value) (AG : Around) (fp : List Addr) (pn : List (Addr × Obj)), GAr X.A AG (genEnv scope (cloFrom X.env.cells scope.names []) C code builtinsNs X.env) → PE (X.gblk s H (genEnv scope (cloFrom X.env.cells scope.names []) C code builtinsNs X.env) AG fp pn) elt te) ∧
    (∀ v, genFold iter X.env v = pure v) ∧ ∀ σ H Q, tR X.K w σ H Q → tGenV c P wi g te (own.map (·.2)) σ H Q
  mo : ∀ sd (Q Q' : RV → Prop), (∀ r, Q r → Q' r) → w sd Q → w sd Q'
def gnOk (scope : Scope) : Bool := (!scope.isCoroutine) && (scope.names.all (fun z => match z.2 with | .cell => false | _ => true) && (match scope.names.lookup (".0" : Str) with | some .local => true | _ => false))
theorem gnOk_of {scope : Scope} (h : gnOk scope = true) : scope.isCoroutine = false ∧ (∀ y ∈ scope.names, y.2 ≠ .cell) ∧ scope.names.lookup (".0" : Str) = some NameKind.local := by
  unfold gnOk at h
  simp only [Bool.and_eq_true, Bool.not_eq_true', List.all_eq_true] at h
  obtain ⟨h1, h2, h3⟩ := h
  refine ⟨h1, fun y hy e => ?_, ?_⟩
  · have := h2 y hy
    rw [e] at this
    cases this
  · split at h3
    · assumption
    · cases h3
theorem EvGn.all {w : WR} (h : EvGn X true P elt tg iter scope w) (G : GenT X.mg X.base fd cc P) (hcode : X.env.code = fd.code) (hr : RmG k X.A) (hc : X.calm = true) (hN : X.N.Nodup) (hm : X.mg "all" = none) (hb : bootBuiltins "all" = some (.builtin "all")) (hok : gnOk scope = true) (hg : Gl X "all" := by rfl)
    (he : starEach [.GeneratorExp elt [⟨tg, iter, [], 0⟩] scope gpos] X.env = (false, eval (.GeneratorExp elt [⟨tg, iter, [], 0⟩] scope gpos) X.env) :: starEach [] X.env := by rfl) :
    EvR X (.Call (.Name "all" p) [.GeneratorExp elt [⟨tg, iter, [], 0⟩] scope gpos] [] pos) w where
  pe := by
    obtain ⟨own, wi, g, te, h1, h2, h3, h4, h5, h6⟩ := h.ex
    obtain ⟨k1, k2, k3⟩ := gnOk_of hok
    constructor
    intro pins s σ H Q I hw
    refine wpAny_Call_Name_kw (ld_blt I hg hm hb ?_)
    refine PyProof.Rows.callWith_builtin1 ?_ he (by rfl)
    rw [he]
    show wpAny _ _ (spliced ((false, eval (.GeneratorExp elt [⟨tg, iter, [], 0⟩] scope gpos) X.env) :: backTo pos (starEach [] X.env))) _ _ s
    refine Calls.spliced_cons (wpAny_mono (gen_coreV hc hN hr.rm G.tb (hcode.trans G.hc) I h1 h2 k1 k2 k3 h3 h4 h5 (h6 σ H Q hw)) (fun v s5 ⟨a, gn, T, out, m, n, gs, hv, st, hm, hT, hgs, hgo, hout⟩ => ?_) fun _ _ z => z)
    subst hv
    refine Calls.spliced_nil (call_allV hr.rm.hd (by have := hr.rm.dp; omega) st (fun b s' ho => ?_) hm hT hgs hgo)
    obtain ⟨H', I', q⟩ := hout b s' ho
    exact ⟨.bl b, H', I', rfl, q⟩
  mo := h.mo
theorem EvGn.any {w : WR} (h : EvGn X false P elt tg iter scope w) (G : GenT X.mg X.base fd cc P) (hcode : X.env.code = fd.code) (hr : RmG k X.A) (hc : X.calm = true) (hN : X.N.Nodup) (hm : X.mg "any" = none) (hb : bootBuiltins "any" = some (.builtin "any")) (hok : gnOk scope = true) (hg : Gl X "any" := by rfl)
    (he : starEach [.GeneratorExp elt [⟨tg, iter, [], 0⟩] scope gpos] X.env = (false, eval (.GeneratorExp elt [⟨tg, iter, [], 0⟩] scope gpos) X.env) :: starEach [] X.env := by rfl) :
    EvR X (.Call (.Name "any" p) [.GeneratorExp elt [⟨tg, iter, [], 0⟩] scope gpos] [] pos) w where
  pe := by
    obtain ⟨own, wi, g, te, h1, h2, h3, h4, h5, h6⟩ := h.ex
    obtain ⟨k1, k2, k3⟩ := gnOk_of hok
    constructor
    intro pins s σ H Q I hw
    refine wpAny_Call_Name_kw (ld_blt I hg hm hb ?_)
    refine PyProof.Rows.callWith_builtin1 ?_ he (by rfl)
    rw [he]
    show wpAny _ _ (spliced ((false, eval (.GeneratorExp elt [⟨tg, iter, [], 0⟩] scope gpos) X.env) :: backTo pos (starEach [] X.env))) _ _ s
    refine Calls.spliced_cons (wpAny_mono (gen_coreV hc hN hr.rm G.tb (hcode.trans G.hc) I h1 h2 k1 k2 k3 h3 h4 h5 (h6 σ H Q hw)) (fun v s5 ⟨a, gn, T, out, m, n, gs, hv, st, hm, hT, hgs, hgo, hout⟩ => ?_) fun _ _ z => z)
    subst hv
    refine Calls.spliced_nil (call_anyV hr.rm.hd (by have := hr.rm.dp; omega) st (fun b s' ho => ?_) hm hT hgs hgo)
    obtain ⟨H', I', q⟩ := hout b s' ho
    exact ⟨.bl b, H', I', rfl, q⟩
  mo := h.mo
end
end DL
set_option Elab.async false
set_option linter.all false
set_option maxRecDepth 100000
set_option maxHeartbeats 4000000
namespace DL.EnT
open PySem PySem.Spec PyProof.Rows L2
open Sem (wp)
end DL.EnT
namespace DL
open PySem PySem.Spec PyProof.Rows L2 GenW EnT
end DL
set_option Elab.async false
set_option linter.all false
set_option maxRecDepth 100000
set_option maxHeartbeats 4000000
namespace DL
open PySem PySem.Spec PyProof.Rows L2
end DL
set_option Elab.async false
set_option linter.all false
set_option maxRecDepth 100000
set_option maxHeartbeats 4000000
namespace DL
open PySem PySem.Spec PyProof.Rows L2 Builtin Builtin.Str
theorem rc_pos (q c : Nat) : 1 ≤ (reprChar q c).length := by
  unfold reprChar
  dsimp only
  repeat' split
  all_goals simp
theorem fold_rc (q : Nat) : ∀ (l : List Nat) (acc : Array Nat), acc.size + l.length ≤ (l.foldl (fun out c => out ++ (reprChar q c).toArray) acc).size
  | [], acc => Nat.le_refl _
  | c :: r, acc => by
    have ih := fold_rc q r (acc ++ (reprChar q c).toArray)
    have h := rc_pos q c
    simp only [List.foldl_cons, List.length_cons]
    simp only [Array.size_append, List.size_toArray] at ih
    omega
theorem str_wt (z : Str) : z.length ≤ wt (.str z) := by
  show z.length ≤ (reprText z).length
  unfold reprText
  show z.length ≤ ((z.cps.foldl (fun out c => out ++ (reprChar (reprQuote z) c).toArray) #[reprQuote z]).push (reprQuote z)).size
  rw [Array.size_push, ← Array.foldl_toList]
  have h := fold_rc (reprQuote z) z.cps.toList #[reprQuote z]
  have e : z.cps.toList.length = z.length := by simp [Str.length]
  omega
theorem wtL_len : ∀ ds : List PyData, 2 * ds.length ≤ wtL ds
  | [] => Nat.le_refl _
  | d :: ds => by
    have := wtL_len ds
    simp only [wtL, List.length_cons]
    omega
theorem wtL_mem : ∀ {ds : List PyData} {x : PyData}, x ∈ ds → wt x ≤ wtL ds
  | d :: ds, x, m => by
    simp only [wtL]
    rcases List.mem_cons.mp m with rfl | m
    · omega
    · have := wtL_mem m; omega
theorem plL_mem : ∀ {ds : List PyData} {x : PyData}, plL ds = true → x ∈ ds → pl x = true
  | d :: ds, x, h, m => by
    simp only [plL, Bool.and_eq_true] at h
    rcases List.mem_cons.mp m with rfl | m
    · exact h.1
    · exact plL_mem h.2 m
theorem depthAll_mem : ∀ {ds : List PyData} {x : PyData}, x ∈ ds → x.depth ≤ PyData.depthAll ds
  | d :: ds, x, m => by
    show x.depth ≤ max d.depth (PyData.depthAll ds)
    rcases List.mem_cons.mp m with rfl | m
    · exact Nat.le_max_left _ _
    · exact Nat.le_trans (depthAll_mem m) (Nat.le_max_right _ _)
theorem PW.mem {ds : List PyData} {x : PyData} {D W : Nat} (h : PW (.tuple ds) D W) (m : x ∈ ds) : PW x D W := by
  obtain ⟨h1, h2, h3⟩ := h
  simp only [pl, wt] at h1 h3
  have h2 : PyData.depthAll ds + 1 ≤ D := by
    have e : (PyData.tuple ds).depth = PyData.depthAll ds + 1 := by simp [PyData.depth]
    omega
  exact ⟨plL_mem h1 m, Nat.le_trans (depthAll_mem m) (by omega), Nat.le_trans (wtL_mem m) (by omega)⟩
theorem PW.len {ds : List PyData} {D W : Nat} (h : PW (.tuple ds) D W) : ds.length ≤ W := by
  have := wtL_len ds
  have := h.2.2
  simp only [wt] at this
  omega
theorem PW.str {z : Str} {D W : Nat} (h : PW (.str z) D W) : z.length ≤ W := Nat.le_trans (str_wt z) h.2.2
theorem PW.sh [Tb] {d : PyData} {D W : Nat} (h : PW d D W) (h1 : D ≤ 64) (h2 : W ≤ 10000000) : SeqAt.shaped d = true := (h.good h1 h2).sh
end DL
set_option Elab.async false
set_option linter.all false
set_option maxRecDepth 100000
set_option maxHeartbeats 4000000
namespace DL
open PySem PySem.Spec PyProof.Rows L2
end DL
set_option Elab.async false
set_option linter.all false
set_option maxRecDepth 100000
set_option maxHeartbeats 4000000
namespace DL
open PySem PySem.Spec PyProof.Rows L2
abbrev emptyObj (w : World) : Obj := { cls := .type "set", dict := none, data := .set #[] 0 (.fresh 0 0 (!w.params.followText "set-order")) }
/-- the set of the texts l at a; it can be walked -/
def SetS (P : Program) (w : World) (h : Heap) (a : Addr) (l : List Str) : Prop := ∃ D : Froz.SD, h.get? a = some (Froz.sObj "set" D) ∧ Froz.TxOk P w D l ∧ l.Nodup ∧ l.length < scanBound ∧ Ris D.2.2.place.toList ∧ (w.params.followText "set-order" = true ∨ D.2.2.led = true)
def SetSO (P : Program) (w : World) (a : Addr) (l : List Str) : HO := .ext fun h => SetS P w h a l
/-- one more text -/
def putS (z : Str) (l : List Str) : List Str := if z ∈ l then l else z :: l
theorem putS_nodup {z : Str} {l : List Str} (h : l.Nodup) : (putS z l).Nodup := by
  unfold putS
  split
  · exact h
  · rename_i n
    exact List.nodup_cons.mpr ⟨n, h⟩
theorem putS_mem {z x : Str} {l : List Str} : x ∈ putS z l ↔ x = z ∨ x ∈ l := by
  unfold putS
  split
  · rename_i m
    exact ⟨.inr, fun h => h.elim (fun e => e ▸ m) id⟩
  · exact List.mem_cons
theorem putS_len {z : Str} {l : List Str} : (putS z l).length ≤ l.length + 1 := by
  unfold putS
  split
  · omega
  · exact Nat.le_refl _
theorem own_ext {f : Heap → Prop} : IsOwn (.ext f) := ⟨fun _ z => (by cases z), fun _ _ z => (by cases z)⟩
section
variable {P : Program} {w : World} {h h' : Heap} {a : Addr} {l : List Str}
theorem SetS.at (R : SetS P w h a l) (k : ∀ o, h.get? a = some o → h'.get? a = some o) : SetS P w h' a l := by
  obtain ⟨D, ho, r⟩ := R
  exact ⟨D, k _ ho, r⟩
theorem setSO_new {H : Hp} (R : SetS P w h a l) : ObjOk P w H h a (SetSO P w a l) := by
  have ⟨D, ho, _⟩ := R
  exact ⟨R, ⟨_, ho⟩, fun h1 h2 p k => SetS.at p k⟩
theorem setS_empty : SetS P w (h.push (emptyObj w)) h.objs.size [] :=
  ⟨(#[], 0, _), Heap.get?_push_size _ rfl, Froz.TxOk.nil (by rfl), List.nodup_nil, by decide, List.Pairwise.nil, by
    show _ ∨ (!w.params.followText "set-order") = true
    cases w.params.followText "set-order"
    · exact .inr rfl
    · exact .inl rfl⟩
theorem tail_ris {ep : Nat} {es : Array (Int × Value)} {t : SetTable} {b : Bool} (r : Ris t.place.toList) : Ris (Froz.tailTx ep es t b).2.2.place.toList := by
  unfold Froz.tailTx
  split
  · exact relayAll_ris _ _ _
  · exact r
theorem tail_led {ep : Nat} {es : Array (Int × Value)} {t : SetTable} {b : Bool} : (Froz.tailTx ep es t b).2.2.led = t.led := by
  unfold Froz.tailTx
  split
  · exact relayAll_led _ _ _
  · rfl
theorem addTx_ris {k : Int} {v : Value} {D : Froz.SD} (r : Ris D.2.2.place.toList) : Ris (Froz.addTx k v D).2.2.place.toList := by
  have q := layNew_ris D.2.2 D.1 k v r
  unfold Froz.addTx
  refine tail_ris ?_
  split <;> exact q
theorem addTx_led {k : Int} {v : Value} {D : Froz.SD} : (Froz.addTx k v D).2.2.led = D.2.2.led := by
  have q := layNew_led D.2.2 D.1 k v
  unfold Froz.addTx
  rw [tail_led]
  split <;> exact q
end
section
variable {P : Program} {w : World} {A : Around} {E : Value → Shared → Prop} {s : Shared} {a : Addr} {l : List Str}
/-- a text that is there already -/
theorem add_old {D : Froz.SD} {k : Str} {u : Tok} {Q : Bool → Shared → Prop} (ho : s.heap.get? a = some (Froz.sObj "set" D)) (F : Froz.TxOk P w D l) (hk : k ∈ l) (hb : l.length < scanBound) (hQ : Q false s) :
    wpAny (model P w) A (setAddHashed a (.str k u) (hashStr w k)) Q E s := by
  obtain ⟨es, ep, t⟩ := D
  have hd : (Froz.sObj "set" (es, ep, t)).data = .set es ep t := rfl
  have hs : es.size = l.length := F.sz
  obtain ⟨e, he, q⟩ := (F.mem k).mp hk
  unfold setAddHashed setAddHashedIn
  refine wpAny_holding (wpAny_bind (wpAny_setState_of ho hd F.fit ?_))
  dsimp only
  rw [byScan_of rfl (by rw [hs]; exact hb) F.el, if_pos rfl]
  unfold setAddByScan
  refine wpAny_bind (wpAny_bind (wpAny_rule (wpAny_bind (wpAny_setScan_of (knd := strKind P w) (k := k) (Froz.is_str k u) ho hd F.fit F.el ?_))))
  cases f : List.findIdx? (fun e => (strKind P w).is k e.2) es.toList with
  | none =>
    have n := List.findIdx?_eq_none_iff.mp f e he
    rw [q] at n
    cases n
  | some j => exact wpAny_pure (wpAny_pure hQ)
theorem setS_put {k : Str} {u : Tok} {Q : Value → Shared → Prop} (R : SetS P w s.heap a l) (room : l.length + 1 < scanBound)
    (hQ : ∀ h' : Heap, (∀ b o, b ≠ a → s.heap.get? b = some o → h'.get? b = some o) → SetS P w h' a (putS k l) → Q .none { s with heap := h', toks := s.toks + 1 }) :
    wpAny (model P w) A (call (.builtin "set.add") [.ref a, .str k u]) Q E s := by
  obtain ⟨D, ho, G, nd, hb, r, ld⟩ := R
  have hT : s.TypeIs (.ref a) "set" := ⟨_, ho, rfl⟩
  refine wpAny_call_entry F.slot_set_add hT F.entry_set_add ?_ (F.args_set_add_2 _ _)
  unfold Builtin.«set.add» Builtin.Frozenset.oneOther
  simp only [List.isEmpty_nil, bind_assoc]
  unfold Builtin.Frozenset.addrOf setAdd
  refine wpAny_bind (wpAny_pure ?_)
  try dsimp only
  refine wpAny_bind (wpAny_pure ?_)
  try dsimp only
  refine wpAny_bind (wpAny_holding (wpAny_bind ((strKind P w).pyHash (Froz.is_str k u) ?_)))
  by_cases m : k ∈ l
  · refine add_old (s := { s with toks := s.toks + 1 }) ho G m hb (wpAny_pure ⟨_, rfl, ?_⟩)
    refine hQ s.heap (fun _ _ _ h => h) ?_
    rw [putS, if_pos m]
    exact ⟨D, ho, G, nd, hb, r, ld⟩
  · refine Froz.add_x (s := { s with toks := s.toks + 1 }) ho G m room (wpAny_pure ⟨_, rfl, ?_⟩)
    refine hQ _ (fun b o n e => PySem.Heap.get?_update_of_ne _ (fun z => n z.symm) e) ?_
    rw [putS, if_neg m]
    exact ⟨_, Froz.get_upd _ ho rfl, Froz.add_ok u G, List.nodup_cons.mpr ⟨m, nd⟩, room, addTx_ris r, by rw [addTx_led]; exact ld⟩
end
end DL
set_option Elab.async false
set_option linter.all false
set_option maxRecDepth 100000
set_option maxHeartbeats 4000000
namespace DL
open PySem PySem.Spec PyProof.Rows L2
section
variable {X : Cx}
theorem setSO_get {pins : List (Addr × Obj)} {σ : L2.St} {H : Hp} {s : Shared} {a : Addr} {l : List Str} (I : Inv X pins σ H s) (ha : H a = some (SetSO X.prog X.w a l)) : SetS X.prog X.w s.heap a l := (I.hok a _ ha).1
/-- set.add, of things that are kept track of -/
theorem setSO_put {pins : List (Addr × Obj)} {σ : L2.St} {H : Hp} {s : Shared} {E : Value → Shared → Prop} {D : Addr} {l : List Str} {k : Str} {u : Tok} {Q : Value → Shared → Prop} (I : Inv X pins σ H s) (hD : H D = some (SetSO X.prog X.w D l)) (room : l.length + 1 < scanBound)
    (h : ∀ s', Inv X pins σ (upd H D (SetSO X.prog X.w D (putS k l))) s' → Q .none s') : wpAny (model X.prog X.w) X.A (call (.builtin "set.add") [.ref D, .str k u]) Q E s :=
  setS_put (setSO_get I hD) room fun h' kk new => by
    have ⟨_, ho, _⟩ := new
    exact h _ (I.write (e := D) (t' := s.toks + 1) (by rw [hD]; trivial) (.inl rfl) (fun b u hb hu => kk b u hb hu) ⟨_, ho⟩ (setSO_new new))
/-- one turn of the comprehension -/
def turnS (P : Program) (w : World) (g : TG) (tt : TT) (te : TE) (vs : List Nat) (σ : L2.St) (D : Addr) (Nx : Hp → Prop) (x : V) (H' : Hp) : Prop :=
  g x (wipe σ vs) H' fun σ2 H2 => wipe σ2 vs = wipe σ vs ∧ tt σ2 H2 fun b H3 =>
    if b = true then te σ2 H3 fun y H4 => ∃ (z : Str) (l : List Str), y = .str z ∧ H4 D = some (SetSO P w D l) ∧ l.length + 1 < scanBound ∧ Nx (upd H4 D (SetSO P w D (putS z l))) else Nx H3
/-- the whole: D the new set -/
def tScS (P : Program) (w : World) (wi : TI) (g : TG) (tt : TT) (te : TE) (vs : List Nat) : TE := fun σ H Q => wi σ H fun J H1 => ∀ D, H1 D = none → ∃ W : Nat → Nat → Hp → Prop, (∃ m, W 0 m (upd H1 D (SetSO P w D []))) ∧ ∀ i m H, W i m H →
  (J.stop i H ∧ Q (.ref D) H) ∨ (J.go i H ∧ ∃ Nx : Hp → Prop, (∀ H', Nx H' → ∃ m', m' < m ∧ W (i + 1) m' H') ∧ ∀ x H', J.yld i H x H' → turnS P w g tt te vs σ D Nx x H')
theorem pe_scS {elt tg iter : Expr} {ifs : List Expr} {scope : Scope} {own : List (PySem.Str × Nat)} {pos : Pos} {wi : TI} {g : TG} {tt : TT} {te : TE} (hc : X.calm = true) (hN : X.N.Nodup) (hi : PI X tg iter wi) (ok : BlkOk X.N X.env.scope scope own)
    (hg : ∀ (s : Shared) (H : Hp) (C : Addr) (cl : List (PySem.Str × Addr)) (fp : List Addr), PG (X.blk s H scope (compEnvC scope cl C X.env) fp) tg g)
    (ht : ∀ (s : Shared) (H : Hp) (C : Addr) (cl : List (PySem.Str × Addr)) (fp : List Addr), PTs (X.blk s H scope (compEnvC scope cl C X.env) fp) ifs tt)
    (he : ∀ (s : Shared) (H : Hp) (C : Addr) (cl : List (PySem.Str × Addr)) (fp : List Addr), PE (X.blk s H scope (compEnvC scope cl C X.env) fp) elt te)
    (hs : ∀ x, foldedSetIterable iter X.env x = pure x) : PE X (.SetComp elt [⟨tg, iter, ifs, 0⟩] scope pos) (tScS X.prog X.w wi g tt te (own.map (·.2))) := by
  refine ⟨fun pins s σ H Q I h => ?_⟩
  rw [PpSet.eval_SetComp]
  have hfree : ∀ y ∈ scope.names, y.2 = .free → ∃ c, X.env.cells.lookup y.1 = some c := fun y hy e => I.ok.has _ (ok.free y hy e)
  refine wpAny_comprehension_free rfl hs (closure_ok hfree) ok.kind (fun y hy e => by rw [ok.uniq y hy, e]) (thn (hi.run pins s σ H _ I h) fun xv s1 hx => thn hx fun itv s2 h2 => ?_)
  obtain ⟨it, fp, tn, J, H2, rfl, I2, T, st2, f2, q⟩ := h2
  refine PpSet.newSet_ok (newEnv_comp ?_)
  -- the new set
  have I3 := I2.laid (t' := s2.toks) (a := s2.heap.objs.size) (o := SetSO X.prog X.w s2.heap.objs.size []) (h' := s2.heap.push (emptyObj X.w)) (fun b o e => Heap.get?_push_of_some _ e) (Nat.le_refl _) (setSO_new setS_empty)
  obtain ⟨W, ⟨m0, w0⟩, turn⟩ := q s2.heap.objs.size (I2.hok.fresh (Nat.le_refl _))
  have sz : ∀ b ∈ fp, b < s2.heap.objs.size := fun b hb => by
    obtain ⟨o, e, _⟩ := T.obj _ _ st2 b hb
    exact Heap.lt_size e
  have st3 : tn 0 (s2.heap.push (emptyObj X.w)) := T.keep _ _ _ st2 fun b _ o e => Heap.get?_push_of_some _ e
  generalize hH3 : upd H2 s2.heap.objs.size (SetSO X.prog X.w s2.heap.objs.size []) = H3 at I3 w0
  generalize hs3 : ({ s2 with heap := s2.heap.push (emptyObj X.w) } : Shared) = s3 at I3
  have e3 : s3.heap = s2.heap.push (emptyObj X.w) := by rw [← hs3]
  have f3 : ∀ b ∈ fp, FpOk X pins H3 b ∧ b < s3.heap.objs.size := fun b hb => by
    refine ⟨⟨?_, (f2 b hb).2⟩, by rw [e3, Heap.size_push]; exact Nat.lt_succ_of_lt (sz b hb)⟩
    rw [← hH3, upd_ne (Nat.ne_of_lt (sz b hb))]
    exact (f2 b hb).1
  have I4 := block_start I3 ok hN f3
  have pg := hg s3 H3 s3.heap.objs.size (cellsFrom (s3.heap.objs.size + 1) scope.names (cloFrom X.env.cells scope.names [])) fp
  have pt := ht s3 H3 s3.heap.objs.size (cellsFrom (s3.heap.objs.size + 1) scope.names (cloFrom X.env.cells scope.names [])) fp
  have pe := he s3 H3 s3.heap.objs.size (cellsFrom (s3.heap.objs.size + 1) scope.names (cloFrom X.env.cells scope.names [])) fp
  have goal : ∀ Z : Result → Shared → Prop, (∀ s' m H', Inv X pins σ H' s' → Q (.ref s2.heap.objs.size) H' → s'.heap.Ns s3.heap.objs.size m → FpOk X pins H' s3.heap.objs.size → Z (.ok .next) s') →
      codeAny (model X.prog X.w) X.A (.compStart (.SetComp elt [⟨tg, iter, ifs, 0⟩] scope pos) 0 (.ref it) (.ref s2.heap.objs.size) (compEnvC scope (cellsFrom (s3.heap.objs.size + 1) scope.names (cloFrom X.env.cells scope.names [])) s3.heap.objs.size X.env)) Z
        { s3 with heap := pushCells (s3.heap.push { cls := .type "dict", data := .dict #[] }) scope.names } := by
    intro Z hZ
    generalize hce : compEnvC scope (cellsFrom (s3.heap.objs.size + 1) scope.names (cloFrom X.env.cells scope.names [])) s3.heap.objs.size X.env = ce at I4 pg pt pe ⊢
    have cL : ce.locals = s3.heap.objs.size := by subst hce; rfl
    generalize hs4 : ({ s3 with heap := pushCells (s3.heap.push { cls := .type "dict", data := .dict #[] }) scope.names } : Shared) = s4 at I4 ⊢
    have st4 : tn 0 s4.heap := T.keep _ _ _ st3 fun b _ o e => by
      rw [← hs4]
      exact pushCells_keeps _ _ _ _ (Heap.get?_push_of_some _ (by rw [e3]; exact e))
    have stat : ∀ {σ' : L2.St} {H' : Hp} {s' : Shared}, Inv (X.blk s3 H3 scope ce fp) [] σ' H' s' → (∀ b ∈ fp, H' b = none) → ∀ b ∈ fp, FpOk (X.blk s3 H3 scope ce fp) [] H' b := fun I' hn b hb =>
      ⟨hn b hb, (I'.ok.exf b hb).1, I'.ok.exfs b hb, .inl hb, fun x c e => (I'.ok.exf b hb).2 x c e, fun p hp => absurd (show p ∈ ([] : List (Addr × Obj)) ++ [] from hp) (by simp)⟩
    have loop : codeAny (model X.prog X.w) X.A (.compLoop (.SetComp elt [⟨tg, iter, ifs, 0⟩] scope pos) 0 (.ref it) (.ref s2.heap.objs.size) ce) Z s4 := by
      refine PpSet.compLoopS_any (fun n s' => ∃ i H', Inv (X.blk s3 H3 scope ce fp) [] (wipe σ (own.map (·.2))) H' s' ∧ tn i s'.heap ∧ (∀ b ∈ fp, H' b = none) ∧ W i n H') ?_ m0 ⟨0, H3, I4, st4, fun b hb => (f3 b hb).1.1, w0⟩
      rintro n s5 ⟨i, H5, I5, st5, n5, w5⟩
      rcases turn i n H5 w5 with ⟨stop, qq⟩ | ⟨go, Nx, hNx, step⟩
      · refine thnF (T.done (X.blk s3 H3 scope ce fp) rfl rfl rfl hc i [] s5 _ H5 (fun _ _ => False) I5 (stat I5 n5) st5 stop) fun r s6 ⟨hr, I6⟩ => ?_
        subst hr
        have I7 : Inv X pins σ H5 s6 := I3.call' (ch := fp) I6.os I6.base I6.hok I6.bare fun b hb => ⟨(f3 b hb).1.2.2.2.1, (f3 b hb).1.2.1, (f3 b hb).1.2.2.2.2.1, (f3 b hb).1.2.2.2.2.2⟩
        have nC : H5 s3.heap.objs.size = none := by
          have z : H5 ce.locals = none := I6.free
          rw [cL] at z
          exact z
        obtain ⟨m, hn, _⟩ := I6.loc
        have hn : s6.heap.Ns ce.locals m := hn
        rw [cL] at hn
        exact hZ s6 m H5 I7 qq hn (I3.fpOk (Nat.le_refl _) nC)
      · refine thnF (T.item (X.blk s3 H3 scope ce fp) rfl rfl rfl hc i [] s5 _ H5 (fun _ _ => False) I5 (stat I5 n5) st5 go) fun r s6 ⟨u, hr, h6⟩ => ?_
        subst hr
        refine thnF h6 fun _ s7 ⟨x, H7, I7, r7, y7, st7, n7⟩ => ?_
        refine thnF (pg.run _ s7 _ H7 x u _ (I7.pinned (stat I7 n7) (T.obj _ _ st7)) r7 (step x H7 y7)) fun _ s8 ⟨σ8, H8, I8, hw8, q8⟩ => ?_
        refine thnF (pt.run _ s8 σ8 H8 _ I8 q8) fun b s9 ⟨H9, I9, q9⟩ => ?_
        have fin : ∀ {s' : Shared} {H' : Hp}, Inv (X.blk s3 H3 scope ce fp) ([] ++ pinsAt fp s7.heap) σ8 H' s' → Nx H' → ∃ m, m < n ∧ ∃ i H', Inv (X.blk s3 H3 scope ce fp) [] (wipe σ (own.map (·.2))) H' s' ∧ tn i s'.heap ∧ (∀ b ∈ fp, H' b = none) ∧ W i m H' := fun {s' H'} I' nx => by
          obtain ⟨m', hm, w'⟩ := hNx H' nx
          have pin' : ∀ b ∈ fp, ∀ o, s7.heap.get? b = some o → s'.heap.get? b = some o ∧ H' b = none := fun b hb o e =>
            have z := I'.pin (b, o) (List.mem_append_right _ (List.mem_append_right _ (mem_pinsAt hb e)))
            ⟨z.1, z.2.1⟩
          refine ⟨m', hm, i + 1, H', (I'.unpinned (pins := [])).weak (by rw [← hw8, wipe_length]) (fun j v e => ?_), T.keep _ _ _ st7 fun b hb o e => (pin' b hb o e).1, fun b hb => ?_, w'⟩
          · rw [← hw8] at e
            exact (wipe_some e).1
          · obtain ⟨o, e, _⟩ := T.obj _ _ st7 b hb
            exact (pin' b hb o e).2
        cases b with
        | false => exact fin I9 q9
        | true =>
          refine thnF (pe.run _ s9 σ8 H9 _ I9 q9) fun z s10 ⟨yv, H10, I10, r10, k, l0, ey, hD10, hz10, nx⟩ => ?_
          subst ey
          obtain ⟨tk, rfl⟩ := r10
          exact setSO_put (X := X.blk s3 H3 scope ce fp) I10 hD10 hz10 fun s11 I11 => fin I11 nx
    exact PpSet.codeAny_compStart_set loop (T.self X.A 0 _ _ _ st4 loop)
  subst hs3
  refine goal _ fun s' m H' I' q hn f => ⟨m, hn, fun h'' sb => ?_⟩
  obtain ⟨f0, f1, f2, f3, f4, f5⟩ := f
  exact ⟨.ref s2.heap.objs.size, H', I'.turned (t' := s'.toks) (fun b o hb e => (sb.2 b hb).trans e) f0 f1 f3 f4 f5, rfl, q⟩
end
end DL
set_option Elab.async false
set_option linter.all false
set_option maxRecDepth 100000
set_option maxHeartbeats 4000000
namespace DL
open PySem PySem.Spec PyProof.Rows L2
theorem perm_same : ∀ {l ks : List Str}, l.Nodup → (∀ x ∈ l, x ∈ ks) → ks.length = l.length → ks.Perm l
  | [], ks, _, _, e => by rw [List.eq_nil_of_length_eq_zero e]
  | x :: l, ks, nd, sub, e => by
    obtain ⟨n, nd⟩ := List.nodup_cons.mp nd
    have m := sub x List.mem_cons_self
    have p := List.perm_cons_erase m
    refine p.trans (List.Perm.cons x (perm_same nd (fun y hy => ?_) ?_))
    · exact (List.mem_erase_of_ne (fun z => n (by rw [← z]; exact hy))).mpr (sub y (List.mem_cons_of_mem _ hy))
    · have := p.length_eq
      rw [List.length_cons] at this e
      omega
section
variable {P : Program} {w : World} {A : Around} {E : Value → Shared → Prop} {s : Shared} {a : Addr} {l : List Str}
theorem sorted_texts {Q : Value → Shared → Prop} (R : SetS P w s.heap a l) (hh : A.handled = none)
    (hQ : ∀ s' p (out : Array Value) (c : Nat) (ys : List Str), (∀ b o, s.heap.get? b = some o → s'.heap.get? b = some o) → s'.gens = s.gens → s'.os = s.os → s.heap.objs.size ≤ p → s'.heap.get? p = some (seqObj "list" out c) →
      StrsAre out.toList ys → ys.Perm l → sortedS ys = true → Q (.ref p) s') : wpAny (model P w) A (call (.builtin "sorted") [.ref a]) Q E s := by
  obtain ⟨⟨es, ep, t⟩, ho, G, nd, hb, hr, hl⟩ := R
  have hz0 : es.size = l.length := G.sz
  refine Calls.call_function_entry kind_sorted plain_sorted entry_sorted (args_sorted1 _) ?_
  unfold Builtin.«sorted»
  refine wpAny_bind (m := checkCount "sorted" 1 1 _) (wpAny_pure ?_)
  refine wpAny_bind (collect_set (A := A.in1) hh ⟨_, ho, rfl, rfl⟩ G.fit (by rw [hz0]; exact hb) hr hl fun s1 vs k1 hz g1 o1 pm => ?_)
  have all : ∀ v ∈ vs, ∃ x tk, v = Value.str x tk ∧ x ∈ l := fun v m => by
    obtain ⟨e, he, q⟩ := List.mem_map.mp (pm.mem_iff.mp m)
    obtain ⟨⟨k, h1, _⟩, _⟩ := G.el e he
    obtain ⟨tk, e1⟩ := Value.isStrOf_shape (x := k) (v := e.2) h1
    exact ⟨k, tk, by rw [← q]; exact e1, (G.mem k).mpr ⟨e, he, h1⟩⟩
  have hvl : vs.length = l.length := by rw [pm.length_eq, List.length_map, Array.length_toList]; exact hz0
  have hS := strsAre_map vs fun v m => by
    obtain ⟨x, tk, e, _⟩ := all v m
    exact ⟨x, tk, e⟩
  have pl : (vs.map strOf).Perm l := perm_same nd (fun x m => by
    obtain ⟨e, he, q⟩ := (G.mem x).mp m
    obtain ⟨tk, e1⟩ := Value.isStrOf_shape (x := x) (v := e.2) q
    refine List.mem_map.mpr ⟨e.2, pm.mem_iff.mpr (List.mem_map_of_mem he), ?_⟩
    rw [e1]
    rfl) (by rw [List.length_map, hvl])
  have hL : vs.length ≤ sizeLine := by rw [hvl, ← hz0]; exact fits_of_scanBound (by rw [hz0]; exact hb)
  refine wpAny_bind (wpAny_newList ?_ hL)
  have hoL : (s1.heap.push (seqObj "list" vs.toArray 0)).get? s1.heap.objs.size = some (seqObj "list" vs.toArray 0) := Heap.get?_push_size _ rfl
  refine wpAny_bind (wpAny_holding (wpAny_call_entry slot_list_sort ⟨_, hoL, rfl⟩ entry_list_sort
    (list_sort_treeKAny strKind_oneLt hoL hS.keysOf (fun v₁ v₂ rest e => keyKind_strs (by rw [← e]; exact hS)) hL fun st' hp hs => ⟨_, rfl, ?_⟩) (args_list_sort _)))
  obtain ⟨ys, a1, a2, a3⟩ := sorted_out_str hS hp hs
  obtain ⟨c, hc⟩ := sortedHeap_at (vs := vs) (out := (arrOf st').map (·.2)) hoL
  refine wpAny_pure ⟨_, rfl, hQ _ s1.heap.objs.size _ c ys (fun b u e => ?_) g1 o1 hz hc a1 (a2.trans pl) a3⟩
  have q := k1 b u e
  have hlt := Heap.lt_size q
  show (sortedHeap (s1.heap.push (seqObj "list" vs.toArray 0)) s1.heap.objs.size vs _).get? b = some u
  rw [sortedHeap_old (Nat.ne_of_lt hlt) (by rw [size_push']; exact Nat.lt_succ_of_lt hlt)]
  exact Heap.get?_push_of_some _ q
end
def rSortS (P : Program) (w : World) : List V → Hp → VK → Prop := fun vs H Q => ∃ (a : Addr) (l : List Str), vs = [V.ref a] ∧ H a = some (SetSO P w a l) ∧ l.length ≤ sizeLine ∧ ∀ ys p, ys.Perm l → sortedS ys = true → H p = none → Q (.ref p) (upd H p (.lst (ys.map V.str)))
section
variable {X : Cx}
theorem cr_sortS (hc : X.calm = true) : CallR X (.builtin "sorted") (rSortS X.prog X.w) := by
  intro pins s σ H vs us Q I r h
  obtain ⟨a, l, rfl, ha, hle, q⟩ := h
  rw [Vals.ref1 r]
  refine sorted_texts (setSO_get I ha) (I.ok.hd hc) fun s' p out c ys k g o hp hy hi hm hs => ?_
  have hn : H p = none := I.hok.fresh hp
  have J : Inv X pins σ (upd H p (.lst (ys.map V.str))) { s with heap := s'.heap, gens := s'.gens, drawn := s'.drawn, toks := s'.toks } :=
    I.call (ch := []) (Un.laid k hp hn) (I.hok.laid k hp ⟨by rw [List.length_map, hm.length_eq]; exact hle, out.toList, c, vals_of_strs hi, hy⟩) (by rw [g]; exact I.bare) (fun _ z => nomatch z)
  have e : s' = { s with heap := s'.heap, gens := s'.gens, drawn := s'.drawn, toks := s'.toks } := by
    rw [← o]
  rw [e]
  exact ⟨.ref p, _, J, rfl, q ys p hm hs hn⟩
end
/-- a sorted list without twins is told by its members -/
theorem ltS_trans {x y z : Str} (h1 : ltCps y.cps.toList x.cps.toList = false) (h2 : ltCps z.cps.toList y.cps.toList = false) : ltCps z.cps.toList x.cps.toList = false := by
  rw [ltCps_eq, decide_eq_false_iff_not] at h1 h2 ⊢
  exact List.not_lt.mpr (List.le_trans (List.not_lt.mp h1) (List.not_lt.mp h2))
theorem leS_anti {x y : Str} (h1 : ltCps y.cps.toList x.cps.toList = false) (h2 : ltCps x.cps.toList y.cps.toList = false) : x = y := by
  rw [ltCps_eq, decide_eq_false_iff_not] at h1 h2
  have := List.le_antisymm (List.not_lt.mp h1) (List.not_lt.mp h2)
  obtain ⟨⟨a⟩⟩ := x
  obtain ⟨⟨b⟩⟩ := y
  exact congrArg (fun l => (⟨⟨l⟩⟩ : Str)) this
theorem rising_pair : ∀ {p : Str} {l : List Str}, risingS p l = true → (p :: l).Pairwise (fun a b => ltCps b.cps.toList a.cps.toList = false)
  | p, [], _ => List.pairwise_singleton _ _
  | p, x :: r, h => by
    have h : (!ltCps x.cps.toList p.cps.toList && risingS x r) = true := h
    rw [Bool.and_eq_true] at h
    have i := rising_pair h.2
    have h1 : ltCps x.cps.toList p.cps.toList = false := by
      have := h.1
      cases q : ltCps x.cps.toList p.cps.toList
      · rfl
      · rw [q] at this; cases this
    refine List.pairwise_cons.mpr ⟨fun y m => ?_, i⟩
    rcases List.mem_cons.mp m with rfl | m
    · exact h1
    · exact ltS_trans h1 (List.rel_of_pairwise_cons i m)
theorem sortedS_pair {l : List Str} (h : sortedS l = true) : l.Pairwise (fun a b => ltCps b.cps.toList a.cps.toList = false) := by
  cases l with
  | nil => exact .nil
  | cons x r => exact rising_pair h
theorem sortedS_one {xs ys : List Str} (h1 : sortedS xs = true) (h2 : sortedS ys = true) (p : xs.Perm ys) : xs = ys :=
  List.Perm.eq_of_pairwise (le := fun a b => ltCps b.cps.toList a.cps.toList = false) (fun a b _ _ h1 h2 => leS_anti h1 h2) (sortedS_pair h1) (sortedS_pair h2) p
end DL
set_option Elab.async false
set_option linter.all false
set_option maxRecDepth 100000
set_option maxHeartbeats 4000000
namespace DL
open PySem PySem.Spec PyProof.Rows L2
variable [Tb]
/-- the walk of a comprehension of texts, behind what is in the set -/
def lcS (g : WG) (t : WB) (we : WR) (sd : SD) : List PyData → List Str → (List Str → Prop) → Prop
  | [], l, Q => Q l
  | d :: ds, l, Q => g d sd fun s => t s fun b => if b = true then we s fun r => ∃ z, r = .va (.str z) ∧ lcS g t we sd ds (putS z l) Q else lcS g t we sd ds l Q
section
variable {X : Cx} {a e tg iter elt : Expr} {ifs : List Expr} {pos p : Pos} {g : WG} {t : WB} {we : WR} {is vs : List Nat} {scope : Scope} {own : List (Str × Nat)}
theorem lcS_mo (hg : ∀ d sd (Q Q' : SD → Prop), (∀ s, Q s → Q' s) → g d sd Q → g d sd Q') (ht : ∀ sd (Q Q' : Bool → Prop), (∀ r, Q r → Q' r) → t sd Q → t sd Q') (he : ∀ sd (Q Q' : RV → Prop), (∀ r, Q r → Q' r) → we sd Q → we sd Q') (sd : SD) :
    ∀ (ds : List PyData) (l : List Str) (Q Q' : List Str → Prop), (∀ r, Q r → Q' r) → lcS g t we sd ds l Q → lcS g t we sd ds l Q'
  | [], l, Q, Q', k, q => k _ q
  | d :: ds, l, Q, Q', k, q => hg _ _ _ _ (fun s y => ht _ _ _ (fun b y => by
      cases b with
      | true => exact he _ _ _ (fun z ⟨x, e, y⟩ => ⟨x, e, lcS_mo hg ht he sd ds _ _ _ k y⟩) y
      | false => exact lcS_mo hg ht he sd ds _ _ _ k y) y) q
theorem sc_run {c : Cd} {sd : SD} {os : List (Option Addr)} {σ : L2.St} {H1 : Hp} {Q : VK} {J : It} {ds : List PyData} {D : Addr}
    (hg : ∀ d sd (Q Q' : SD → Prop), (∀ s, Q s → Q' s) → g d sd Q → g d sd Q') (ht : ∀ sd (Q Q' : Bool → Prop), (∀ r, Q r → Q' r) → t sd Q → t sd Q') (he : ∀ sd (Q Q' : RV → Prop), (∀ r, Q r → Q' r) → we sd Q → we sd Q')
    (hk : c.K = X.K) (r : R c sd os σ H1) (hD : H1 D = none) (hv : ∀ i ∈ vs, noOw (getS sd i) = true) (hsub : ∀ i ∈ is, i ∈ vs)
    (hJ : ∀ H2, Ext c.S H1 H2 → ItOk c.K J ds (OO { c with Oc := D :: c.Oc } os) H2) (hz : ds.length ≤ 1000)
    (q : lcS g t we (wipeD sd vs) ds [] fun l => ∀ H', Ext c.S H1 H' → H' D = some (SetSO X.prog X.w D l) → l.Nodup → l.length ≤ 1000 → Q (.ref D) H') :
    ∃ W : Nat → Nat → Hp → Prop, (∃ m, W 0 m (upd H1 D (SetSO X.prog X.w D []))) ∧ ∀ i m H, W i m H →
      (J.stop i H ∧ Q (.ref D) H) ∨ (J.go i H ∧ ∃ Nx : Hp → Prop, (∀ H', Nx H' → ∃ m', m' < m ∧ W (i + 1) m' H') ∧ ∀ x H', J.yld i H x H' → turnS X.prog X.w (tGt X.K is g) (tTe X.K t) (tR X.K we) vs σ D Nx x H') := by
  have nS : D ∉ c.S := fun z => r.srcNow.there D z hD
  have h0 : c.H0 D = none := by
    cases q : c.H0 D with
    | none => rfl
    | some o => rw [r.ext.st D o nS q] at hD; cases hD
  have rD := (r.hide (o := SetSO X.prog X.w D []) (H' := upd H1 D (SetSO X.prog X.w D [])) (Ext.of (same_new hD)) hD upd_same own_ext).wipe vs hv
  let I : Nat → List Str → Hp → Prop := fun i l H => H D = some (SetSO X.prog X.w D l) ∧ R { c with Oc := D :: c.Oc } (wipeD sd vs) os (wipe σ vs) H ∧ Ext c.S H1 H ∧ l.Nodup ∧ l.length ≤ i ∧
      lcS g t we (wipeD sd vs) (ds.drop i) l fun l => ∀ H', Ext c.S H1 H' → H' D = some (SetSO X.prog X.w D l) → l.Nodup → l.length ≤ 1000 → Q (.ref D) H'
  refine ⟨fun i m H => m = ds.length - i ∧ i ≤ ds.length ∧ ∃ l, I i l H, ⟨_, rfl, Nat.zero_le _, [], upd_same, rD, Ext.of (same_new hD), List.nodup_nil, Nat.le_refl _, q⟩, ?_⟩
  rintro i m H ⟨rfl, hi, l, hDa, rw', x1, nd, hl, q⟩
  have ok := hJ H x1
  by_cases hlt : i < ds.length
  · have eg := List.getElem?_eq_getElem hlt
    obtain ⟨go, yl⟩ := ok.1 i _ eg
    rw [List.drop_eq_getElem_cons hlt] at q
    refine .inr ⟨go, fun H' => ∃ l, I (i + 1) l H', fun H' h => ⟨ds.length - (i + 1), by omega, rfl, hlt, h⟩, fun x H' y => ?_⟩
    obtain ⟨rfl, dx⟩ := yl x H' y
    refine ⟨{ c with Oc := D :: c.Oc }, wipeD sd vs, os, ds[i], hk, rw', by rw [← hk]; exact dx, hg _ _ _ _ (fun s k σ2 os2 r2 b2 => ⟨?_, ?_⟩) q⟩
    · rw [wipe_but b2 hsub, wipe_idem]
    · refine ⟨{ c with Oc := D :: c.Oc }, s, os2, hk, r2, ht _ _ _ (fun b kb H3 x3 => ?_) k⟩
      cases b with
      | false => exact ⟨l, x3.st D _ nS hDa, rw'.grow x3, x1.trans x3, nd, by omega, kb⟩
      | true =>
        refine ⟨{ c with Oc := D :: c.Oc }, s, os2, hk, r2.grow x3, he _ _ _ (fun rz kz y H4 x4 rv => ?_) kb⟩
        obtain ⟨z, rfl, kz⟩ := kz
        have x34 := x3.trans x4
        have rv : Dx X.K _ y (.str z) := rv
        cases rv
        have pl := putS_len (z := z) (l := l)
        refine ⟨z, l, rfl, x34.st D _ nS hDa, ?_, putS z l, upd_same, (rw'.grow x34).updO List.mem_cons_self nS h0 own_ext, ext_upd (x1.trans x34) hD nS, putS_nodup nd, by omega, kz⟩
        have : (1002 : Nat) < scanBound := by decide
        omega
  · have e : i = ds.length := by omega
    subst e
    rw [List.drop_length] at q
    exact .inl ⟨ok.2 _ (Nat.le_refl _), q H x1 hDa nd (by omega)⟩
/-- sorted({elt for tg in iter if ..}) over a list or a tuple -/
theorem evr_sortSC {wi : WD} {q : Pos} (h : Ev .sh X iter wi) (ok : BlkOk X.N X.env.scope scope own) (hc : X.calm = true) (hN : X.N.Nodup) (hm : X.mg "sorted" = none)
    (hg : ∀ (s : Shared) (H : Hp) (C : Addr) (cl : List (Str × Addr)) (fp : List Addr), EvG (X.blk s H scope (compEnvC scope cl C X.env) fp) tg is g)
    (ht : ∀ (s : Shared) (H : Hp) (C : Addr) (cl : List (Str × Addr)) (fp : List Addr), EvI (X.blk s H scope (compEnvC scope cl C X.env) fp) ifs t)
    (he : ∀ (s : Shared) (H : Hp) (C : Addr) (cl : List (Str × Addr)) (fp : List Addr), EvR (X.blk s H scope (compEnvC scope cl C X.env) fp) elt we)
    (hgl : Gl X "sorted" := by rfl) (hsub : ∀ i ∈ is, i ∈ own.map (·.2) := by decide) (hs : ∀ x, foldedSetIterable iter X.env x = pure x := by intro _; rfl)
    (nb : starEach [.SetComp elt [⟨tg, iter, ifs, 0⟩] scope q] X.env = (false, eval (.SetComp elt [⟨tg, iter, ifs, 0⟩] scope q) X.env) :: starEach [] X.env := by rfl) :
    EvR X (.Call (.Name "sorted" p) [.SetComp elt [⟨tg, iter, ifs, 0⟩] scope q] [] pos) (fun sd Q => wi sd fun d => dItems d fun ds =>
      (okVs sd (own.map (·.2)) = true ∧ ds.length ≤ 1000) ∧ lcS g t we (wipeD sd (own.map (·.2))) ds [] fun l => ∀ ys, ys.Perm l → sortedS ys = true → l.Nodup → Q (.fr (ys.map PyData.str))) where
  pe := PE.weak (pe_callB (cr_sortS hc) hgl hm (by decide +kernel) (pa_cons (pe_scS (g := tGt X.K is g) (tt := tTe X.K t) (te := tR X.K we) hc hN (pi_seq h.pe) ok (fun s H C cl fp => (hg s H C cl fp).pg) (fun s H C cl fp => (ht s H C cl fp).pt) (fun s H C cl fp => (he s H C cl fp).pe) hs) pa_nil nb) (he := nb)) fun σ H Q ⟨c, sd, os, hk, r, q⟩ => by
    have hg' := (hg X.s_0 X.H_0 0 [] []).mo
    have ht' := (ht X.s_0 X.H_0 0 [] []).mo
    have he' := (he X.s_0 X.H_0 0 [] []).mo
    have fin : ∀ (H1 : Hp) (x1 : Ext c.S H H1) (D : Addr) (hD : H1 D = none) (l : List Str), (∀ ys, ys.Perm l → sortedS ys = true → l.Nodup → ∀ v H', Ext c.S H H' → RvR X.K (OO c os) H H' v (.fr (ys.map PyData.str)) → Q v H') →
        ∀ H', Ext c.S H1 H' → H' D = some (SetSO X.prog X.w D l) → l.Nodup → l.length ≤ 1000 → rSortS X.prog X.w [.ref D] H' Q := fun H1 x1 D hD l k H' x' hl nd hn => by
      refine ⟨D, l, rfl, hl, by rw [sizeLine_eq]; omega, fun ys p3 pm ss hp3 => ?_⟩
      have rr := r.grow (x1.trans x')
      refine k ys pm ss nd _ _ ((x1.trans x').trans (Ext.of (same_new hp3))) (RvR.from r.sO (fun a m => rr.there m) (x1.trans x') ?_)
      refine ⟨p3, _, rfl, hp3, upd_same, ?_⟩
      have : ∀ l : List Str, DxAll X.K (hid (p3 :: OO c os) (upd H' p3 (.lst (ys.map V.str)))) (l.map V.str) (l.map PyData.str) := fun l => by
        induction l with
        | nil => exact .nil
        | cons i l ih => exact .cons (.str _) ih
      exact this _
    refine ⟨c, sd, os, hk, r, h.mo _ _ _ (fun d kz v H1 x1 dm => ?_) q⟩
    have rr := r.grow x1
    cases d with
    | list ds =>
      obtain ⟨⟨k1, k2⟩, k3⟩ := kz
      obtain ⟨a, xs, rfl, d1, d2⟩ := dm
      refine .inl ⟨a, xs, rfl, .inl (.inl (hid_some d1).2), fun D hD => sc_run (Q := fun x H => rSortS X.prog X.w [x] H Q) hg' ht' he' hk rr hD (okVs_all k1) hsub (fun H2 x2 => ?_) k2 (lcS_mo hg' ht' he' _ _ _ _ _ (fun l kl => fin H1 x1 D hD l kl) k3)⟩
      rw [hk]
      refine it_l (x2.st a _ (hid_some d1).1 (hid_some d1).2) (DxAll.same (hid_same (fun b o n e => x2.st b o (fun z => n (r.sO b z)) e) fun b m => ?_) _ _ d2)
      rcases mem_OO.mp m with z | z
      · rcases List.mem_cons.mp z with rfl | z
        · exact .inr hD
        · exact .inl (mem_OO.mpr (.inl z))
      · exact .inl (mem_OO.mpr (.inr z))
    | tuple ds =>
      obtain ⟨⟨k1, k2⟩, k3⟩ := kz
      obtain ⟨a, xs, rfl, d1, d2⟩ := shTup dm
      refine .inr ⟨a, xs, rfl, SqT.same hid_sub d1, fun D hD => sc_run (Q := fun x H => rSortS X.prog X.w [x] H Q) hg' ht' he' hk rr hD (okVs_all k1) hsub (fun H2 x2 => ?_) k2 (lcS_mo hg' ht' he' _ _ _ _ _ (fun l kl => fin H1 x1 D hD l kl) k3)⟩
      rw [hk]
      have sub : Same (hid (OO c os) H1) (hid (OO { c with Oc := D :: c.Oc } os) H2) := hid_same (fun b o n e => x2.st b o (fun z => n (r.sO b z)) e) fun b m => by
        rcases mem_OO.mp m with z | z
        · rcases List.mem_cons.mp z with rfl | z
          · exact .inr hD
          · exact .inl (mem_OO.mpr (.inl z))
        · exact .inl (mem_OO.mpr (.inr z))
      exact it_t (SqT.same hid_sub (SqT.same sub d1)) (DxAll.same sub _ _ d2)
    | _ => exact kz.elim
  mo := fun sd Q Q' k q => h.mo _ _ _ (fun d z => dItems_mo (fun ds z => ⟨z.1, lcS_mo (hg X.s_0 X.H_0 0 [] []).mo (ht X.s_0 X.H_0 0 [] []).mo (he X.s_0 X.H_0 0 [] []).mo _ _ _ _ _ (fun l y ys a b c => k _ (y ys a b c)) z.2⟩) z) q
end
end DL
set_option Elab.async false
set_option linter.all false
set_option maxRecDepth 100000
set_option maxHeartbeats 4000000
namespace PySem.SeqAt
open PySem PyProof.Rows
open MeetsSeq
end PySem.SeqAt
namespace DL
open PySem PySem.Spec PyProof.Rows L2
end DL
set_option Elab.async false
set_option linter.all false
set_option maxRecDepth 100000
set_option maxHeartbeats 4000000
namespace DL
open PySem PySem.Spec PyProof.Rows L2
end DL
set_option Elab.async false
set_option linter.all false
set_option maxRecDepth 100000
set_option maxHeartbeats 4000000
namespace DL
open PySem PySem.Spec PyProof.Rows L2
theorem bounds_tail {a n : Nat} (h : a ≤ n) : sliceBounds (some (a : Int)) none none n = ((a : Int), (n : Int), 1) := by
  simp only [sliceBounds, Option.getD_none]
  have h1 : ¬ ((a : Int) < 0) := by omega
  simp only [h1, if_false, show (1 : Int) > 0 by decide, if_true]
  congr 1
  omega
section
variable {prog : Program} {w : World} {A : Around} {E : Value → Shared → Prop} {s : Shared}
/-- the store, with bounds that are told -/
theorem store_cut {l b sl : Addr} {items new : Array Value} {n n2 : Nat} {vl vu : Value} {lo hi : Option Int} {a c : Nat} {Q : Unit → Shared → Prop}
    (e : s.heap.get? l = some { cls := .type "list", data := .seq items n }) (e2 : s.heap.get? b = some { cls := .type "list", data := .seq new n2 }) (hne : l ≠ b)
    (hs : s.heap.IsSliceOf sl vl vu .none) (pl : IsPart vl lo) (pu : IsPart vu hi) (hb : sliceBounds lo hi none items.size = ((a : Int), (c : Int), 1)) (hac : a ≤ c) (hc : c ≤ items.size)
    (hsz : items.size + new.size ≤ sizeLine) (h : Q () { s with heap := s.heap.update l (Obj.mapSeq fun xs => xs.extract 0 a ++ new ++ xs.extract c xs.size) }) :
    wpAny (model prog w) A (setItem (.ref l) (.ref sl) (.ref b)) Q E s := by
  have isl : s.heap.IsList l items := PySem.IsL.isList e
  have isb : s.heap.IsList b new := PySem.IsL.isList e2
  obtain ⟨os, hos, hcs, hds⟩ := id hs
  have noSame : Builtin.List.listSameRef (.ref l) (.ref b) = false := by
    unfold Builtin.List.listSameRef
    exact beq_eq_false_iff_ne.mpr hne
  have top : (max (a : Int) (c : Int)).toNat = c := by omega
  have fits : ((fun xs : Array Value => xs.extract 0 a ++ new ++ xs.extract c xs.size) items).size ≤ sizeLine + 1 := by
    simp only [Array.size_append, Array.size_extract]
    omega
  unfold setItem
  try with_reducible refine wpAny_holding ?_
  first | refine wpAny_bind (wpAny_pure ?_) | skip
  refine wpAny_bind (wpAny_sequenceKey isl.typeIs (by decide) ?_)
  refine wpAny_bind (wpAny_callSpecial?_slot (name := Str.ofString "__setitem__") isl.typeIs slot_list_setitem (wpAny_call_entry slot_list_setitem isl.typeIs entry_list_setitem ?_ (args_list_setitem _ _ _)))
  show wpAny _ _ (Builtin.List.listSubscript? (.ref sl) >>= _) _ _ s
  refine wpAny_bind ?_
  unfold Builtin.List.listSubscript?
  refine wpAny_bind (wpAny_specialOf (⟨os, hos, hcs⟩ : s.TypeIs (.ref sl) "slice") slice_no_index ?_)
  simp only [Option.isNone_none, if_true]
  refine wpAny_pure ?_
  show wpAny _ _ (typeOf (.ref sl) >>= _) _ _ s
  refine wpAny_bind (wpAny_typeOf (⟨os, hos, hcs⟩ : s.TypeIs (.ref sl) "slice") ?_)
  first | rw [if_neg (by decide)] | refine PySem.W.KFB.if_not (by decide) ?_
  rw [listSliceParts_eq]
  refine wpAny_bind (wpAny_bind (wpAny_field hos hds (x := .none) rfl (wpAny_bind (wpAny_listPart .none ?_))))
  rw [if_neg (show ¬ ((rawPart none == rawInt 0) = true) from Bool.false_ne_true)]
  refine wpAny_bind (wpAny_field hos hds (x := vl) rfl (wpAny_bind (wpAny_listPart pl ?_)))
  refine wpAny_bind (wpAny_field hos hds (x := vu) rfl (wpAny_bind (wpAny_listPart pu (wpAny_pure ?_))))
  first
    | simp only [noSame, Bool.false_eq_true, if_false]
    | refine PySem.W.KFB.if_not noSame ?_
    | (dsimp only; rw [if_neg (by rw [noSame]; exact Bool.false_ne_true)])
  refine wpAny_bind (m := Builtin.List.listAllItems (.ref b) "must assign iterable to extended slice") ?_
  unfold Builtin.List.listAllItems
  refine wpAny_bind (wpAny_typeOf isb.typeIs ?_)
  first
    | refine PySem.W.KFB.if_so (by decide) ?_
    | rw [if_pos (by decide)]
    | simp only [beq_self_eq_true, Bool.true_or, if_true]
  unfold Builtin.List.listItems
  refine wpAny_bind (wpAny_seqItems e2 rfl (wpAny_pure (wpAny_bind (wpAny_bind (wpAny_seqItems e rfl (wpAny_pure ?_))))))
  refine wpAny_bind (wpAny_of_eq ((sliceIndices_raw lo hi none items.size (by simp)).trans (congrArg (pure : Int × Int × Int → Sem (Int × Int × Int)) hb)) ?_)
  show wpAny _ _ (if ((1 : Int) == 1) = true then _ else _) _ _ s
  rw [if_pos (by decide)]
  refine wpAny_bind (wpAny_rule ?_)
  first
    | simp only [notLongL hsz, Bool.false_eq_true, if_false]
    | refine PySem.W.KFB.if_not (notLongL hsz) ?_
  first | refine wpAny_bind (wpAny_pure ?_) | skip
  show wpAny _ _ (updateSeq l (fun xs => xs.extract 0 ((a : Int)).toNat ++ new ++ xs.extract (max (a : Int) (c : Int)).toNat xs.size) >>= _) _ _ s
  rw [top, Int.toNat_natCast]
  refine wpAny_bind (wpAny_updateSeq (hz := Nat.le_trans (Nat.le_add_right _ _) hsz) (_hz' := fits) e rfl (wpAny_bind (wpAny_letGo ?_)))
  first
    | exact wpAny_bind (wpAny_pure (wpAny_pure ⟨.none, rfl, wpAny_pure h⟩))
    | exact wpAny_pure ⟨.none, rfl, wpAny_pure h⟩
end
section
variable {X : Cx}
theorem splice_tail (its new : List Value) (a : Nat) : (its.toArray.extract 0 a ++ new.toArray ++ its.toArray.extract its.length its.toArray.size) = (its.take a ++ new).toArray := by
  apply Array.toList_inj.mp
  simp
/-- xs[lo:] = a new list -/
def gCut (to : TE) (tl : TO) : TG := fun v σ H Q => to σ H fun x H1 => tl σ H1 fun l H2 => ∃ (a b : Addr) (i : Nat) (xs ys : List V), x = .ref a ∧ v = .ref b ∧ l = some (i : Int) ∧ a ≠ b ∧ H2 a = some (.lst xs) ∧ H2 b = some (.lst ys) ∧ i ≤ xs.length ∧ xs.length + ys.length ≤ sizeLine ∧
  Q σ (upd H2 a (.lst (xs.take i ++ ys)))
theorem pg_cut {o : Expr} {lo : Option Expr} {to : TE} {tl : TO} {p2 pos : Pos} (ho : PE X o to) (hl : PO X lo tl)
    (ha : ∀ v, assign (.Subscript o (.Slice lo none none p2) pos) X.env v = (do
      let ov ← holding [v] (eval o X.env)
      let iv ← holding [v, ov] (eval (.Slice lo none none p2) X.env)
      standAt pos
      holding [v, ov, iv] (setItem ov iv v)
      release [iv, v, ov] []) := by intro _; rfl) : PG X (.Subscript o (.Slice lo none none p2) pos) (gCut to tl) := by
  refine ⟨fun pins s σ H v u Q I r h => ?_⟩
  rw [ha]
  refine wpAny_bind (wpAny_holding (thn (ho.run pins s σ H _ I h) fun ov s1 ⟨x, H1, I1, r1, q1⟩ => ?_))
  refine wpAny_bind (wpAny_holding (wpAny_Slice (thn (hl.run pins s1 σ H1 _ I1 q1) fun vl s2 ⟨l, H2, I2, pl, q2⟩ => ?_)))
  rw [evalPart_none]
  refine wpAny_pure (wpAny_pure ?_)
  obtain ⟨a, b, i, xs, ys, rfl, rfl, rfl, hne, ha, hb, hi, hz, q⟩ := q2
  cases r1
  cases r
  have I3 : Inv X pins σ H2 { s2 with heap := s2.heap.push { cls := .type "slice", data := .fields #[vl, .none, .none] } } := I2.kept (t' := s2.toks) fun b ob q => Heap.get?_push_of_some _ q
  obtain ⟨z, its, n, rv, hl3, e⟩ := I3.lstM ha
  obtain ⟨z2, its2, n2, rv2, hl4, e2⟩ := I3.lstM hb
  have l1 := rv.length
  have l2 := rv2.length
  refine wpAny_bind (wpAny_standAt (wpAny_bind (wpAny_holding (store_cut (a := i) (c := its.length) e e2 hne (Heap.IsSliceOf.new ..) pl .none (bounds_tail (n := its.toArray.size) (by rw [List.size_toArray]; omega)) (by omega) (by rw [List.size_toArray]; omega) (by rw [List.size_toArray, List.size_toArray]; omega) ?_))))
  refine wpAny_release ?_
  have I4 := I3.lset (f := fun xs => xs.extract 0 i ++ its2.toArray ++ xs.extract its.length xs.size) (its' := its.take i ++ its2) (t' := s2.toks) ha e (splice_tail its its2 i) (Vals.append (rv.take _) rv2) (by rw [List.length_append, List.length_take]; omega)
  exact ⟨σ, _, I4, q⟩
variable [Tb] {kx vx : Expr} {x : Str} {pos p : Pos}
/-- xs[k:] = ys, ys a new list -/
def wCutPut (i : Nat) (wk : WD) (wv : WR) : WS := fun E sd => wv sd fun z => match z with
  | .fr ys => onOw i sd fun ds => wk sd fun k => match k with
    | .int n => (0 ≤ n ∧ n ≤ (ds.length : Int) ∧ ds.length + ys.length ≤ sizeLine) ∧ E.nx (sd.set i (.ow (ds.take n.toNat ++ ys)))
    | _ => False
  | _ => False
theorem evs_cutput {wk : WD} {wv : WR} {pos' p2 : Pos} (i : Nat) (hkx : Ev .sh X kx wk) (hvx : EvR X vx wv) (hN : X.N[i]? = some x := by rfl)
    (hv : Vis X.env.scope x := by first | exact Or.inl rfl | exact Or.inr (Or.inl rfl) | exact Or.inr (Or.inr rfl))
    (hd : (x == ("__debug__" : Str)) = false := by decide) (hcd : (x == ("__classdict__" : Str)) = false := by decide)
    (ha : ∀ v, assign (.Subscript (.Name x p) (.Slice (some kx) none none p2) pos') X.env v = (do
      let ov ← holding [v] (eval (.Name x p) X.env)
      let iv ← holding [v, ov] (eval (.Slice (some kx) none none p2) X.env)
      standAt pos'
      holding [v, ov, iv] (setItem ov iv v)
      release [iv, v, ov] []) := by intro _; rfl)
    (hs : swapsWithSole [.Subscript (.Name x p) (.Slice (some kx) none none p2) pos'] vx pos.line X.env = pure false := by rfl) (hw : swappedStores [.Subscript (.Name x p) (.Slice (some kx) none none p2) pos'] vx X.env = pure none := by rfl) :
    EvS X (.Assign [.Subscript (.Name x p) (.Slice (some kx) none none p2) pos'] vx pos) (wCutPut i wk wv) where
  ps := PS.weak (ps_asg hvx.pe (pg_cut (pe_var hN hv hd hcd) (po_some hkx.pe) ha) hs hw) fun D σ H ⟨c, sd, os, E, hk, r, er, q⟩ => by
    refine ⟨c, sd, os, hk, r, hvx.mo _ _ _ (fun z kz y H1 x1 rv => ?_) q⟩
    cases z with
    | fr ys =>
      obtain ⟨ds, es, kz⟩ := onOw_get kz
      have r1 := r.grow x1
      obtain ⟨b, us, rfl, b0, b1, b2⟩ := rv
      obtain ⟨v, oa, h1, h2, a, xs, rfl, rfl, h3, h4, h5⟩ := r1.at_ es (by intro z; cases z)
      have na := own_notS r1 (List.mem_of_getElem? h2)
      have nb : b ∉ c.S := fun m => r.srcNow.there b m b0
      have own : ∃ o, H a = some o := by
        obtain ⟨_, _, g1, g2, a', _, rfl, rfl, g3, _⟩ := r.at_ es (by intro z; cases z)
        have e := h2.symm.trans g2
        injection e with e
        injection e with e
        exact ⟨_, by rw [e]; exact g3⟩
      have ab : a ≠ b := fun z => by
        obtain ⟨o, ho⟩ := own
        rw [z, b0] at ho
        cases ho
      refine ⟨_, h1, c, sd, os, hk, r1, hkx.mo _ _ _ (fun k kk u H3 x3 dk => ?_) kz⟩
      cases k with
      | int n =>
        obtain rfl := shInt dk
        obtain ⟨⟨n0, n1, n2⟩, kk⟩ := kk
        obtain ⟨j, rfl⟩ := Int.eq_ofNat_of_zero_le n0
        have t3 := x3.st a _ na h3
        have t4 := DxAll.grow r1.sO x3 h4
        have tb := x3.st b _ nb b1
        have ty : DxAll c.K (hid (OO c os) H3) us ys := by
          rw [hk]
          refine DxAll.same (hid_same (fun q o nq e => x3.st q o (fun m => nq (List.mem_cons_of_mem _ (r1.sO q m))) e) fun q m => .inl (List.mem_cons_of_mem _ m)) _ _ b2
        refine ⟨_, rfl, a, b, j, xs, us, rfl, rfl, rfl, ab, t3, tb, by rw [h4.len]; omega, by rw [h4.len, ty.len]; exact n2, ?_⟩
        rw [Int.toNat_natCast] at kk
        exact er.nx _ _ _ _ (R.upd (r1.grow x3) h2 ((t4.take j).app ty)) kk
      | _ => exact kk.elim
    | _ => exact kz.elim
  mo := fun E E' sd h1 _ _ _ q => hvx.mo _ _ _ (fun z y => by
    cases z with
    | fr ys =>
      obtain ⟨ds, es, y⟩ := onOw_get y
      exact onOw_put es (hkx.mo _ _ _ (fun k y => by
        cases k with
        | int n => exact ⟨y.1, h1 _ y.2⟩
        | _ => exact y.elim) y)
    | _ => exact y.elim) q
end
end DL
set_option Elab.async false
set_option linter.all false
set_option maxRecDepth 100000
set_option maxHeartbeats 4000000
namespace DL
open PySem PySem.Spec PyProof.Rows L2
/-- y is the module's tuple of the defs at fs -/
structure RTab (K : PySem.W.Frag) (mg : Str → Option Value) (y : Str) (fs : List Addr) : Prop where
  ex : ∃ (a : Addr) (o : Obj) (its : Array Value) (n : Nat), mg y = some (.ref a) ∧ K.lookup a = some o ∧ o.cls = .type "tuple" ∧ o.data = .seq its n ∧ its.size ≤ sizeLine ∧ its.toList = fs.map Value.ref
theorem vals_refs : ∀ fs : List Addr, Vals (fs.map V.ref) (fs.map Value.ref)
  | [] => .nil
  | _ :: fs => .cons rfl (vals_refs fs)
theorem RTab.at {K : PySem.W.Frag} {mg : Str → Option Value} {y : Str} {fs : List Addr} (h : RTab K mg y fs) : ∃ a, mg y = some (.ref a) ∧ ∀ H : Hp, SqT K H a (fs.map V.ref) := by
  obtain ⟨a, o, its, n, h1, h2, h3, h4, h5, h6⟩ := h.ex
  exact ⟨a, h1, fun H => .inr ⟨o, its, n, h2, h3, h4, h5, by rw [h6]; exact vals_refs fs⟩⟩
variable [Tb]
end DL
set_option Elab.async false
set_option linter.all false
set_option maxRecDepth 100000
set_option maxHeartbeats 4000000
namespace L2
open PySem PySem.Spec PyProof.Rows
end L2
namespace DL
open PySem PySem.Spec PyProof.Rows L2
end DL
set_option Elab.async false
set_option linter.all false
set_option maxRecDepth 100000
set_option maxHeartbeats 4000000
namespace LZ
open PySem PySem.Spec PyProof.Rows L2
abbrev PairO (u v : Value) : Obj := { cls := .type "tuple", data := .seq #[u, v] }
structure NG (Pr : Nat → Value → Value → Prop) (lo : Addr) (h : Heap) (as : List Addr) : Prop where
  up : as.Pairwise (· < ·)
  gt : ∀ a ∈ as, lo < a
  pr : ∀ (j : Nat) (a : Addr), as[j]? = some a → ∃ k v, Pr j k v ∧ h.get? a = some (PairO k v)
section
variable {prog : Program} {w : World} {A : Around} {s : Shared} {R : Result → Shared → Prop} {I S lo : Addr} {wr : List Addr} {n : Nat} {Pr : Nat → Value → Value → Prop} {St : Nat → Heap → Prop}
theorem NG.lt {h : Heap} {as : List Addr} (g : NG Pr lo h as) {a : Addr} (m : a ∈ as) : a < h.objs.size := by
  obtain ⟨j, hj⟩ := List.mem_iff_getElem?.mp m
  obtain ⟨_, _, _, e⟩ := g.pr j a hj
  exact Heap.lt_size e
end
section
variable {prog : Program} {w : World} {A : Around} {E : Value → Shared → Prop} {s : Shared} {z TI TO i1 i2 l1 l2 : Addr} {xs ys : Array Value}
/-- what stands ahead of list(..) -/
structure ZAt (h : Heap) (z TI TO i1 i2 l1 l2 : Addr) (xs ys : Array Value) : Prop where
  z : IsZip h z TI TO .none
  ti : IsPair h TI (.ref i1) (.ref i2)
  to : ∃ a b, IsPair h TO a b
  i1 : h.IsListIter i1 l1 0
  i2 : h.IsListIter i2 l2 0
  l1 : h.IsList l1 xs
  l2 : h.IsList l2 ys
theorem ZAt.keep {h g : Heap} (x : ZAt h z TI TO i1 i2 l1 l2 xs ys) {S : Addr} (kp : ∀ b o, b ≠ S → h.get? b = some o → g.get? b = some o) (hS : S ≠ z ∧ S ≠ TI ∧ S ≠ TO ∧ S ≠ i1 ∧ S ≠ i2 ∧ S ≠ l1 ∧ S ≠ l2) : ZAt g z TI TO i1 i2 l1 l2 xs ys := by
  obtain ⟨sz, sI, sO, s1, s2, t1, t2⟩ := hS
  obtain ⟨a, b, e⟩ := x.to
  exact ⟨kp _ _ (Ne.symm sz) x.z, kp _ _ (Ne.symm sI) x.ti, ⟨a, b, kp _ _ (Ne.symm sO) e⟩, x.i1.at fun o e => kp _ o (Ne.symm s1) e, x.i2.at fun o e => kp _ o (Ne.symm s2) e, x.l1.at fun o e => kp _ o (Ne.symm t1) e, x.l2.at fun o e => kp _ o (Ne.symm t2) e⟩
end
end LZ
namespace DL
open PySem PySem.Spec PyProof.Rows L2
end DL
set_option Elab.async false
set_option linter.all false
set_option maxRecDepth 100000
set_option maxHeartbeats 4000000
namespace DL
open PySem PySem.Spec PyProof.Rows L2
variable [Tb]
/-- what an exception bears: nothing, or one thing by its name -/
abbrev XD := Option (Str × PyData)
/-- a wish behind a raise: the class, what it bears -/
abbrev EX := Addr → XD → Prop
def XDat (K : PySem.W.Frag) (O : List Addr) (H0 H : Hp) (d : Option Addr) : XD → Prop
  | none => d = none
  | some (n, x) => ∃ (a : Addr) (v : V), d = some a ∧ H0 a = none ∧ H a = some (.xd [(n, v)]) ∧ Dx K (hid (a :: O) H) v x
abbrev FSpX := List AV → (RV → Prop) → EX → Prop
def MoX (fs : FSpX) : Prop := ∀ as (Q Q' : RV → Prop) (E E' : EX), (∀ r, Q r → Q' r) → (∀ C o, E C o → E' C o) → fs as Q E → fs as Q' E'
def PSpX (K : PySem.W.Frag) (n : Nat) (fs : FSpX) : Sp := fun vs H Q E => ∃ (S Oc : List Addr) (as : List AV), SrcOk H S ∧ (∀ a ∈ S, a ∈ Oc) ∧ OcOk H S Oc ∧
  DAs .cl K S Oc H vs as ∧ as.length = n ∧ fs as (fun r => ∀ v H', Ext S H H' → RvR K Oc H H' v r → Q v H') (fun C o => ∀ d H', Ext S H H' → XDat K Oc H H' d o → E (.ref C) d H')
section
variable {P : Program} {w : World} {K : PySem.W.Frag} {mg : Str → Option Value} {base : Heap}
/-- where it raises nothing it is a def as any other -/
theorem FnG.calm {k n : Nat} {f : Addr} {fd : FuncData} {ps : List Str} {fs : FSpX} (F : FnG P w K mg base (CX P w) k f fd ps (PSpX K n fs)) (hm : MoX fs) : FnG P w K mg base CX0 k f fd ps (PSp K n fun as Q => fs as Q fun _ _ => False) := by
  have up : ∀ vs H Q E, PSp K n (fun as Q => fs as Q fun _ _ => False) vs H Q E → PSpX K n fs vs H Q (fun _ _ _ => False) := fun vs H Q E ⟨S, Oc, as, h1, h2, h3, h4, h5, h6⟩ => ⟨S, Oc, as, h1, h2, h3, h4, h5, hm _ _ _ _ _ (fun _ h => h) (fun _ _ z => z.elim) h6⟩
  refine ⟨fun vs H Q E q => F.len vs H Q _ (up _ _ _ _ q), fun A outer s H args us vs Q E hr e0 hb r q => ?_⟩
  refine codeAny_mono (F.run A outer s H args us vs Q _ hr e0 hb r (up _ _ _ _ q)) fun r s' hq => ?_
  match r, hq with
  | .error e, hq =>
    obtain ⟨a, B, H', cls, d, _, _, _, _, _, _, _, no⟩ := hq
    exact no.elim
  | .ok (.ret u), hq => exact hq
  | .ok .next, hq => exact hq
  | .ok .brk, hq => exact hq
  | .ok .cont, hq => exact hq
end
end DL
set_option Elab.async false
set_option linter.all false
set_option maxRecDepth 100000
set_option maxHeartbeats 8000000
namespace DL
open PySem PySem.Spec PyProof.Rows L2
variable [Tb]
theorem nodup_le {α : Type} [BEq α] [LawfulBEq α] : ∀ {l ks : List α}, l.Nodup → (∀ x ∈ l, x ∈ ks) → l.length ≤ ks.length
  | [], _, _, _ => Nat.zero_le _
  | x :: l, ks, nd, h => by
    rw [List.nodup_cons] at nd
    have hx := h x List.mem_cons_self
    have ih := nodup_le (l := l) (ks := ks.erase x) nd.2 fun y m => by
      have ne : y ≠ x := fun e => nd.1 (by rw [← e]; exact m)
      exact (List.mem_erase_of_ne ne).mpr (h y (List.mem_cons_of_mem _ m))
    rw [List.length_erase_of_mem hx] at ih
    have : 0 < ks.length := List.length_pos_of_mem hx
    rw [List.length_cons]
    omega
end DL
set_option Elab.async false
set_option linter.all false
set_option maxRecDepth 100000
set_option maxHeartbeats 4000000
namespace DL
open PySem PySem.Spec PyProof.Rows L2
variable [Tb]
def cd6 (p : Nat × Nat) : Int := 100 * p.1 + p.2
end DL
set_option Elab.async false
set_option linter.all false
set_option maxRecDepth 100000
set_option maxHeartbeats 4000000
namespace DL
open PySem PySem.Spec PyProof.Rows L2
end DL
set_option Elab.async false
set_option linter.all false
set_option maxRecDepth 100000
set_option maxHeartbeats 4000000
namespace L2
open PySem PySem.Spec PyProof.Rows
end L2
set_option Elab.async false
set_option linter.all false
set_option maxRecDepth 100000
set_option maxHeartbeats 4000000
namespace L2
open PySem PySem.Spec PyProof.Rows
end L2
namespace DL
open PySem PySem.Spec PyProof.Rows L2
end DL
set_option Elab.async false
set_option linter.all false
set_option maxRecDepth 100000
set_option maxHeartbeats 4000000
namespace DL
open PySem PySem.Spec PyProof.Rows L2
end DL
set_option Elab.async false
set_option linter.all false
set_option maxRecDepth 100000
set_option maxHeartbeats 4000000
namespace DL
open PySem PySem.Spec PyProof.Rows L2
end DL
set_option Elab.async false
set_option linter.all false
set_option maxRecDepth 100000
set_option maxHeartbeats 4000000
namespace DL
open PySem PySem.Spec PyProof.Rows L2
end DL
set_option Elab.async false
set_option linter.all false
set_option maxRecDepth 100000
set_option maxHeartbeats 4000000
namespace DL
open PySem PySem.Spec PyProof.Rows L2
end DL
set_option Elab.async false
set_option linter.all false
set_option maxRecDepth 100000
set_option maxHeartbeats 4000000
namespace DL
open PySem PySem.Spec PyProof.Rows L2
def tx (d : PyData) : List Nat := d.shown.cps.toList
end DL
set_option Elab.async false
set_option linter.all false
set_option maxRecDepth 100000
set_option maxHeartbeats 4000000
namespace DL
open PySem PySem.Spec PyProof.Rows L2
end DL
set_option Elab.async false
set_option linter.all false
set_option maxRecDepth 100000
set_option maxHeartbeats 4000000
namespace DL
open PySem PySem.Spec PyProof.Rows L2
variable [Tb]
theorem reads_ints {h : Heap} : ∀ {ns : List Int} {vs : List Value}, Vals (ns.map V.int) vs → ReadsAll h vs (ns.map PyData.int) []
  | [], _, .nil => .nil
  | n :: ns, _, .cons r t => by
    have : ∃ t, _ = Value.int n t := r
    obtain ⟨t0, rfl⟩ := this
    exact ReadsAll.cons (as := []) (bs := []) (.int n _) (reads_ints t)
theorem ints_alike (ns : List Int) : W.AlikeAll (ns.map PyData.int) := by
  refine ⟨fun x mx y my => ?_, fun x mx => ?_⟩
  · obtain ⟨a, _, rfl⟩ := List.mem_map.mp mx
    obtain ⟨b, _, rfl⟩ := List.mem_map.mp my
    rfl
  · obtain ⟨a, _, rfl⟩ := List.mem_map.mp mx
    intro e; cases e
theorem ints_flat : ∀ ns : List Int, PyData.depthAll (ns.map PyData.int) = 0
  | [] => rfl
  | n :: ns => by
    show max (PyData.int n).depth (PyData.depthAll (ns.map PyData.int)) = 0
    rw [ints_flat ns]; rfl
end DL
set_option Elab.async false
set_option linter.all false
set_option maxRecDepth 100000
set_option maxHeartbeats 4000000
namespace DL
open PySem PySem.Spec PyProof.Rows L2 GenW
end DL
set_option Elab.async false
set_option linter.all false
set_option maxRecDepth 100000
set_option maxHeartbeats 4000000
namespace DL
open PySem PySem.Spec PyProof.Rows L2
variable [Tb]
theorem dx_txts {K : PySem.W.Frag} {H : Hp} : ∀ {us : List V} {ys : List Str}, DxAll K H us (ys.map PyData.str) → us = ys.map V.str
  | _, [], h => by cases h; rfl
  | _, y :: ys, h => by
    cases h with
    | cons h1 h2 =>
      cases h1
      rw [dx_txts h2]; rfl
def joinOk (a : Str) (ys : List Str) : Prop := (ys.map (·.length)).sum + ys.length * a.length ≤ 16777216
def dJoin (a : Str) (l : PyData) (Q : RV → Prop) : Prop := match l with
  | .list ds => ∃ ys, ds = ys.map PyData.str ∧ joinOk a ys ∧ Q (.va (.str (Txt.join a ys)))
  | .tuple ds => ∃ ys, ds = ys.map PyData.str ∧ joinOk a ys ∧ Q (.va (.str (Txt.join a ys)))
  | _ => False
theorem dJoin_mo {a : Str} {l : PyData} {Q Q' : RV → Prop} (k : ∀ r, Q r → Q' r) (q : dJoin a l Q) : dJoin a l Q' := by
  cases l with
  | list ds => obtain ⟨ys, h1, h2, h3⟩ := q; exact ⟨ys, h1, h2, k _ h3⟩
  | tuple ds => obtain ⟨ys, h1, h2, h3⟩ := q; exact ⟨ys, h1, h2, k _ h3⟩
  | _ => exact q.elim
def wJoin (wo we : WD) : WR := fun sd Q => wo sd fun d => match d with
  | .str a => we sd fun l => dJoin a l Q
  | _ => False
section
variable {X : Cx} {o e : Expr} {wo we : WD} {apos pos : Pos}
theorem evr_join (h : Ev .sh X o wo) (he : Ev .sh X e we) (hs : starEach [e] X.env = [(false, eval e X.env)] := by rfl) (hbase : attributeBase o "join" X.env (eval o X.env) = eval o X.env := by rfl) (hline : (apos.endLine == pos.line) = true := by rfl) :
    EvR X (.Call (.Attribute o "join" apos) [e] [] pos) (wJoin wo we) where
  pe := PE.weak (pe_join h.pe he.pe hs hbase hline) fun σ H Q ⟨c, sd, os, hk, r, q⟩ => ⟨c, sd, os, hk, r, h.mo _ _ _ (fun d kd v H1 x1 dm => by
    cases d with
    | str a =>
      refine ⟨⟨a, shStr dm⟩, c, sd, os, hk, r.grow x1, he.mo _ _ _ (fun l kl u H2 x2 em => ?_) kd⟩
      cases l with
      | list ds =>
        obtain ⟨ys, rfl, hb, kl⟩ := kl
        obtain ⟨p, us, rfl, h1, h2⟩ := em
        have e1 := dx_txts h2
        subst e1
        exact ⟨a, p, ys, shStr dm, rfl, .inl (.inl (.inl (hid_some h1).2)), hb, kl _ H2 (x1.trans x2) (.str _)⟩
      | tuple ds =>
        obtain ⟨ys, rfl, hb, kl⟩ := kl
        obtain ⟨p, us, rfl, h1, h2⟩ := shTup em
        have e1 := dx_txts h2
        subst e1
        exact ⟨a, p, ys, shStr dm, rfl, .inr (SqT.same hid_sub h1), hb, kl _ H2 (x1.trans x2) (.str _)⟩
      | _ => exact kl.elim
    | _ => exact kd.elim) q⟩
  mo := fun sd Q Q' k q => h.mo _ _ _ (fun d z => by
    cases d with
    | str a => exact he.mo _ _ _ (fun l y => dJoin_mo k y) z
    | _ => exact z.elim) q
end
end DL
set_option Elab.async false
set_option linter.all false
set_option maxRecDepth 100000
set_option maxHeartbeats 4000000
namespace DL
open PySem PySem.Spec PyProof.Rows L2
end DL
set_option Elab.async false
set_option linter.all false
set_option maxRecDepth 100000
set_option maxHeartbeats 400000
namespace DL
open PySem PySem.Spec PyProof.Rows L2
variable [Tb]
section
variable {X : Cx} {es : List Expr} {m : Md} {pos : Pos} {x : Str}
def wFnL (i : Nat) (f : Addr) (ws : WA) : WA := fun sd Q => getS sd i = .fn f ∧ ws sd fun ds => Q (.fn f :: ds)
theorem eva_lfn {ws : WA} (i : Nat) (f : Addr) (t : EvA m X es ws) (hN : X.N[i]? = some x := by rfl)
    (hv : Vis X.env.scope x := by first | exact Or.inl rfl | exact Or.inr (Or.inl rfl) | exact Or.inr (Or.inr rfl))
    (hd : (x == ("__debug__" : Str)) = false := by decide) (hcd : (x == ("__classdict__" : Str)) = false := by decide)
    (hs : starEach (.Name x pos :: es) X.env = (false, eval (.Name x pos) X.env) :: starEach es X.env := by rfl) : EvA m X (.Name x pos :: es) (wFnL i f ws) where
  pa := PA.weak (pa_cons (pe_var hN hv hd hcd) t.pa hs) fun σ H Q ⟨c, sd, os, hk, r, g, q⟩ => by
    obtain ⟨v, oa, h1, h2, h3, rfl⟩ := r.at_ g (by intro z; cases z)
    exact ⟨_, h1, c, sd, os, hk, r, t.mo _ _ _ (fun ds k2 vs H2 x2 d2 => k2 _ H2 x2 (.fn d2)) q⟩
  mo := fun sd Q Q' k q => ⟨q.1, t.mo _ _ _ (fun ds z => k _ z) q.2⟩
end
end DL
set_option Elab.async false
set_option linter.all false
set_option maxRecDepth 100000
set_option maxHeartbeats 1000000
namespace DL
open PySem PySem.Spec PyProof.Rows L2
variable [Tb]
/-- a slot is forgotten -/
theorem R.drop {c : Cd} {sd : SD} {os : List (Option Addr)} {σ : L2.St} {H : Hp} (r : R c sd os σ H) (i : Nat) (v : Option V) : R c (sd.set i .un) (os.set i none) (σ.set i v) H := by
  have sub : Same (hid (OO c os) H) (hid (OO c (os.set i none)) H) := hid_same (fun _ _ _ h => h) fun a m => by
    rcases mem_OO.mp m with q | q
    · exact .inl (mem_OO.mpr (.inl q))
    · obtain ⟨j, hj, e⟩ := List.getElem_of_mem q
      rcases set_get (show (os.set i none)[j]? = some (some a) by rw [List.getElem?_eq_getElem hj, e]) with ⟨_, z⟩ | ⟨_, z⟩
      · cases z
      · exact .inl (mem_OO.mpr (.inr (List.mem_of_getElem? z)))
  refine ⟨r.ext, r.src, r.sin, r.ocl, by simp [r.lend], by simp [r.leno], fun j s w oa h1 h2 h3 => ?_, fun j k a h1 h2 => ?_, fun p m => Dx.same sub _ _ (r.tmp p m), fun a m => ?_⟩
  · rcases set_get h1 with ⟨ej, e1⟩ | ⟨nj, e1⟩
    · subst ej e1
      rcases set_get h3 with ⟨_, e3⟩ | ⟨n, _⟩
      · subst e3; exact rfl
      · exact absurd rfl n
    · rcases set_get h2 with ⟨n, _⟩ | ⟨_, e2⟩
      · exact absurd n nj
      · rcases set_get h3 with ⟨n, _⟩ | ⟨_, e3⟩
        · exact absurd n nj
        · have q := r.slot j s w oa e1 e2 e3
          cases s with
          | un => exact q
          | so => exact q
          | fn _ => exact q
          | va d => obtain ⟨q1, y, q2, q3⟩ := q; exact ⟨q1, y, q2, Dx.same sub _ _ q3⟩
          | ow ds => obtain ⟨a, xs, q1, q2, q3, q4, q5⟩ := q; exact ⟨a, xs, q1, q2, q3, DxAll.same sub _ _ q4, q5⟩
          | od ds => obtain ⟨a, xs, q1, q2, q3, q4, q5⟩ := q; exact ⟨a, xs, q1, q2, q3, DE.same sub q4, q5⟩
  · rcases set_get h1 with ⟨_, e⟩ | ⟨n1, e1⟩
    · cases e
    · rcases set_get h2 with ⟨_, e⟩ | ⟨n2, e2⟩
      · cases e
      · exact r.uniq j k a e1 e2
  · obtain ⟨j, hj, e⟩ := List.getElem_of_mem m
    rcases set_get (show (os.set i none)[j]? = some (some a) by rw [List.getElem?_eq_getElem hj, e]) with ⟨_, z⟩ | ⟨_, z⟩
    · cases z
    · exact r.dis a (List.mem_of_getElem? z)
theorem new_back {S : List Addr} {H H' : Hp} (x : Ext S H H') (hs : SrcOk H S) {p : Addr} (h : H' p = none) : H p = none := by
  cases e : H p with
  | none => rfl
  | some o =>
    by_cases m : p ∈ S
    · exact absurd h ((x.so hs).there p m)
    · rw [x.st p o m e] at h; cases h
section
variable {X : Cx} {e1 e2 e3 tst : Expr} {body rest : List Stmt} {w1 w2 w3 : WR} {wt : WB} {wb wr : WS} {x : Str} {p0 p1 p2 p3 p4 p5 p6 p7 p8 p9 p10 : Pos} {jk jn : Nat}
/-- xs = [a, b, c]; if test: ..; xs[2].append(None): c a new list; xs is not read from then on -/
def wNest3 (i : Nat) (w1 w2 w3 : WR) (wt : WB) (wb wr : WS) : WS := fun E sd => w1 sd fun z1 => w2 sd fun z2 => w3 sd fun z3 => match z3 with
  | .fr ys => (ys.length < 1000000 ∧ i < sd.length) ∧ wt (sd.set i (.va (.list [z1.dat, z2.dat, .list ys]))) fun b => if b = true then wb { E with nx := fun _ => False } (sd.set i (.va (.list [z1.dat, z2.dat, .list ys]))) else wr E (sd.set i .un)
  | _ => False
theorem evb_nest3 (i : Nat) (h1 : EvR X e1 w1) (h2 : EvR X e2 w2) (h3 : EvR X e3 w3) (ht : EvT X tst wt) (hb : EvB X body wb) (hr : EvB X rest wr) (hN : X.N.Nodup) (hi : X.N[i]? = some x := by rfl) (hx : Loc X.env.scope x := by first | exact Or.inl rfl | exact Or.inr rfl)
    (hv : Vis X.env.scope x := by first | exact Or.inl rfl | exact Or.inr (Or.inl rfl) | exact Or.inr (Or.inr rfl))
    (hd : (x == ("__debug__" : Str)) = false := by decide) (hcd : (x == ("__classdict__" : Str)) = false := by decide)
    (hs : swapsWith (.List [e1, e2, e3] p1) (some (.Name x p0)) p2.line X.env = pure false := by rfl) (hf : X.fn x = true ∨ X.env.scope.names.lookup x = some .local := by first | exact .inl rfl | exact .inr rfl)
    (s1 : starEach [e1, e2, e3] X.env = (false, eval e1 X.env) :: starEach [e2, e3] X.env := by rfl) (s2 : starEach [e2, e3] X.env = (false, eval e2 X.env) :: starEach [e3] X.env := by rfl) (s3 : starEach [e3] X.env = (false, eval e3 X.env) :: starEach [] X.env := by rfl)
    (hbase : attributeBase (.Subscript (.Name x p4) (.Constant (.int 2) jk p5) p6) "append" X.env (eval (.Subscript (.Name x p4) (.Constant (.int 2) jk p5) p6) X.env) = eval (.Subscript (.Name x p4) (.Constant (.int 2) jk p5) p6) X.env := by rfl)
    (hfew : ((backTo p9 (starEach [.Constant .none jn p8] X.env)).all (fun x => !x.1) && (backToKw p9 (keywordEach [] X.env)).all (fun x => x.1.isSome)
      && decide ([Expr.Constant .none jn p8].length + ([] : List Keyword).length + (if ([] : List Keyword).isEmpty then 0 else 1) < 30)) = true := by rfl)
    (hline : (p7.endLine == p9.line) = true := by rfl) (hst : starEach [.Constant .none jn p8] X.env = (false, eval (.Constant .none jn p8) X.env) :: starEach [] X.env := by rfl)
    (hplain : (backTo p9 (starEach [] X.env)).any (·.1) = false := by rfl) (hsw : swapsWith (.Call (.Attribute (.Subscript (.Name x p4) (.Constant (.int 2) jk p5) p6) "append" p7) [.Constant .none jn p8] [] p9) none p10.line X.env = pure false := by rfl) :
    EvB X (.Assign [.Name x p0] (.List [e1, e2, e3] p1) p2 :: .If tst body [] p3 :: .Expr (.Call (.Attribute (.Subscript (.Name x p4) (.Constant (.int 2) jk p5) p6) "append" p7) [.Constant .none jn p8] [] p9) p10 :: rest) (wNest3 i w1 w2 w3 wt wb wr) where
  ps := PSs.weak (pss_cons (ps_set hN hi hx (pe_lst (pa_cons h1.pe (pa_cons h2.pe (pa_cons h3.pe pa_nil s3) s2) s1)) hs hf) (pss_cons (ps_if ht.pt hb.ps pss_nil)
      (pss_cons (ps_expr (pe_bm F.plainAttrs_list F.slot_list_append F.type_list_append mt_append (pe_ix ix_list (pe_var hi hv hd hcd) pe_int (fun _ _ => rfl)) (pa_cons pe_non pa_nil hst) hbase hfew hline hst hplain) hsw) hr.ps)))
    fun D σ H ⟨c, sd, os, E, hk, r, er, q⟩ => by
      refine ⟨c, sd, os, hk, r, h1.mo _ _ _ (fun z1 k1 y1 H1 x1 rv1 => ?_) q⟩
      have r1 := r.grow x1
      refine ⟨c, sd, os, hk, r1, h2.mo _ _ _ (fun z2 k2 y2 H2 x2 rv2 => ?_) k1⟩
      have r2 := r1.grow x2
      refine ⟨c, sd, os, hk, r2, h3.mo _ _ _ (fun z3 k3 y3 H3 x3 rv3 => ?_) k2⟩
      cases z3 with
      | va _ => exact k3.elim
      | fd _ => exact k3.elim
      | fr ys =>
        obtain ⟨ky, k3⟩ := k3
        have r3 := r2.grow x3
        obtain ⟨p, us, rfl, hp0, hp1, hus⟩ := rv3
        have np : p ∉ OO c os := fun m => r2.there m hp0
        have d1 : Dx c.K (hid (OO c os) H3) y1 z1.dat := by
          rw [hk]; exact Dx.grow r.sO (x2.trans x3) (RvR.cl rv1 fun a m => r.there m)
        have d2 : Dx c.K (hid (OO c os) H3) y2 z2.dat := by
          rw [hk]; exact Dx.grow r.sO x3 (RvR.cl rv2 fun a m => r1.there m)
        have d3 : Dx c.K (hid (OO c os) H3) (.ref p) (.list ys) := by
          rw [hk]; exact .lst (by rw [hid_out np]; exact hp1) (DxAll.same (hid_same (fun _ _ _ e => e) fun a m => .inl (List.mem_cons_of_mem _ m)) _ _ hus)
        have lus := hus.len
        refine ⟨by rw [sizeLine_eq]; show 3 ≤ _; decide, fun b hb0 => ?_⟩
        have pb : p ≠ b := fun e => by rw [e, hb0] at hp1; cases hp1
        have nb : b ∉ OO c os := fun m => r3.there m hb0
        have x4 : Ext c.S H3 (upd H3 b (.lst [y1, y2, .ref p])) := Ext.of (same_new hb0)
        have xx : Ext c.S H (upd H3 b (.lst [y1, y2, .ref p])) := ((x1.trans x2).trans x3).trans x4
        have dl : Dx c.K (hid (OO c os) (upd H3 b (.lst [y1, y2, .ref p]))) (.ref b) (.list [z1.dat, z2.dat, .list ys]) :=
          .lst (by rw [hid_out nb]; exact upd_same) (.cons (Dx.grow r.sO x4 d1) (.cons (Dx.grow r.sO x4 d2) (.cons (Dx.grow r.sO x4 d3) .nil)))
        obtain ⟨oa, R1⟩ := R.set (i := i) (z := .va (.list [z1.dat, z2.dat, .list ys])) r xx dl
        refine ⟨c, _, _, hk, R1, ht.mo _ _ _ (fun t kt H5 x5 => ?_) k3⟩
        have hb5 : H5 b = some (.lst [y1, y2, .ref p]) := x5.st b _ (fun m => nb (r.sO b m)) upd_same
        have hp5 : H5 p = some (.lst us) := x5.st p _ (fun m => np (r.sO p m)) (by rw [upd_ne pb]; exact hp1)
        cases t with
        | true =>
          rw [if_pos rfl] at kt
          exact ⟨c, _, _, { E with nx := fun _ => False }, hk, R1.grow x5, ⟨fun _ _ _ _ _ z => z.elim, er.bk, er.ct, er.rt⟩, kt⟩
        | false =>
          rw [if_neg (by decide)] at kt
          have hp : H p = none := new_back x1 r.srcNow (new_back x2 r1.srcNow hp0)
          have x6 : Ext c.S H (upd H5 p (.lst (us ++ [.non]))) := ext_upd (xx.trans x5) hp (fun m => np (r.sO p m))
          have R2 := (r.drop i (some (.ref b))).grow x6
          have iN : i < σ.length := by
            rw [← r.lend]
            exact ky.2
          refine ⟨_, ?_, b, [y1, y2, .ref p], 2, .ref p, rfl, rfl, .inl (.inl hb5), rfl, .inl ⟨rfl, _, .inl (.inl hp5)⟩, p, us, .non, rfl, rfl, hp5, by rw [lus, sizeLine_eq]; have := ky.1; omega, c, _, _, E, hk, R2, er, kt⟩
          rw [List.getElem?_set_self iN]
  mo := fun E E' sd h1' h2' h3' h4' q => h1.mo _ _ _ (fun z1 k1 => h2.mo _ _ _ (fun z2 k2 => h3.mo _ _ _ (fun z3 k3 => by
    cases z3 with
    | va _ => exact k3.elim
    | fd _ => exact k3.elim
    | fr ys =>
      refine ⟨k3.1, ht.mo _ _ _ (fun t kt => ?_) k3.2⟩
      cases t with
      | true =>
        rw [if_pos rfl] at kt ⊢
        exact hb.mo { E with nx := fun _ => False } { E' with nx := fun _ => False } _ (fun _ z => z) h2' h3' h4' kt
      | false =>
        rw [if_neg (by decide)] at kt ⊢
        exact hr.mo _ _ _ h1' h2' h3' h4' kt) k2) k1) q
end
def maxDef (is : List Int) (k : Int) : Int := match is with
  | [] => k
  | i :: is => is.foldl max i
section
variable {X : Cx} {e ke : Expr} {x : Str} {p pos kpos : Pos}
def rMaxD (K : PySem.W.Frag) : List V → List V → Hp → VK → Prop := fun vs zs H Q => ∃ (a : Addr) (is : List Int) (k : Int), vs = [V.ref a] ∧ zs = [V.int k] ∧ SqL K H a (is.map V.int) ∧ Q (.int (maxDef is k)) H
theorem cr_maxD (hc : X.calm = true) (hu : X.A.units + 64 < cLine) : CallRK X (.builtin "max") [Str.ofString "default"] (rMaxD X.K) := by
  intro pins s σ H vs zs us ws Q I r rz h
  obtain ⟨a, is, k, rfl, rfl, hs, q⟩ := h
  obtain ⟨its, rv, ht, _⟩ := I.list hs
  rw [Vals.ref1 r]
  obtain ⟨w1, rfl, e1⟩ := vals1 rz
  have ra := reads_ints (h := s.heap) rv
  refine W.max_list_default (I.ok.hd hc) ht.isList ra (ints_alike is) (by rw [ints_flat]; omega) (fun e0 h' tk hk => ?_) fun y ys j v h' tk bs e0 hj rd hk => ?_
  · cases is with
    | nil => exact ⟨.int k, H, I.kept hk, e1, q⟩
    | cons i is => cases e0
  · cases is with
    | nil => cases e0
    | cons i is =>
      rw [List.map_cons] at e0
      injection e0 with e1 e2
      subst e1 e2
      rw [W.maxD_ints] at rd
      cases rd with
      | int _ t => exact ⟨.int _, H, I.kept hk, ⟨_, rfl⟩, q⟩
def wMaxD (we wk : WD) : WR := fun sd Q => we sd fun d => wk sd fun k => match d, k with
  | .list xs, .int k => ∃ is : List Int, xs = is.map PyData.int ∧ Q (.va (.int (maxDef is k)))
  | _, _ => False
theorem evr_maxD {we wk : WD} (hc : X.calm = true) (hu : X.A.units + 64 < cLine) (hm : X.mg x = none) (hv : bootBuiltins x = some (.builtin "max")) (ha : Ev .sh X e we) (hk : Ev .cl X ke wk) (hg : Gl X x := by rfl) (hn : x ≠ "__name__" := by decide) (hdb : (x == ("__debug__" : Str)) = false := by decide)
    (he : backTo pos (starEach [e] X.env) = (false, eval e X.env) :: backTo pos (starEach [] X.env) := by rfl) (hpl : (backTo pos (starEach [e] X.env)).any (·.1) = false := by rfl) (h0 : starEach [e] X.env = (false, eval e X.env) :: starEach [] X.env := by rfl)
    (hall : (backToKw pos (keywordEach [⟨some "default", ke, kpos⟩] X.env)).all (·.1.isSome) = true := by rfl) (hnone : (backToKw pos (keywordEach [⟨some "default", ke, kpos⟩] X.env)).any (·.1.isNone) = false := by rfl) (hks : (backToKw pos (keywordEach [⟨some "default", ke, kpos⟩] X.env)).filterMap (·.1) = [Str.ofString "default"] := by rfl) :
    EvR X (.Call (.Name x p) [e] [⟨some "default", ke, kpos⟩] pos) (wMaxD we wk) where
  pe := PE.weak (pe_callBK (cr_maxD hc hu) hg hm hv (pa_cons ha.pe pa_nil h0) (pk_cons hk.pe pk_nil) hn hdb he hpl hall hnone hks) fun σ H Q ⟨c, sd, os, hk', r, q⟩ => by
    refine ⟨c, sd, os, hk', r, ha.mo _ _ _ (fun d kd v1 H1 x1 d1 => ?_) q⟩
    refine ⟨c, sd, os, hk', r.grow x1, hk.mo _ _ _ (fun k kk v2 H2 x2 d2 => ?_) kd⟩
    split at kk
    · obtain ⟨is, rfl, kk⟩ := kk
      obtain ⟨a, us, rfl, h1, h2⟩ := d1
      obtain rfl := all_ints h2
      obtain rfl := shInt (S := c.S) d2
      obtain ⟨na, h1⟩ := hid_some h1
      exact ⟨a, is, _, rfl, rfl, .inl (.inl (x2.st a _ na h1)), kk _ H2 (x1.trans x2) (.int _)⟩
    · exact kk.elim
  mo := fun sd Q Q' k q => ha.mo _ _ _ (fun d kd => hk.mo _ _ _ (fun kv kk => by
    split at kk
    · obtain ⟨is, e, kk⟩ := kk
      exact ⟨is, e, k _ kk⟩
    · exact kk.elim) kd) q
end
end DL
set_option Elab.async false
set_option linter.all false
set_option maxRecDepth 100000
set_option maxHeartbeats 4000000
namespace DL
open PySem PySem.Spec PyProof.Rows L2
section
variable {P : Program} {w : World} {A : Around} {E : Value → Shared → Prop} {s : Shared} {a : Addr} {l : List Str}
theorem setS_hashed {k : Str} {u : Tok} {Q : Bool → Shared → Prop} (R : SetS P w s.heap a l) (room : l.length + 1 < scanBound)
    (hQ : ∀ (b : Bool) (h' : Heap), (∀ b o, b ≠ a → s.heap.get? b = some o → h'.get? b = some o) → SetS P w h' a (putS k l) → Q b { s with heap := h' }) :
    wpAny (model P w) A (setAddHashed a (.str k u) (hashStr w k)) Q E s := by
  obtain ⟨D, ho, G, nd, hb, r, ld⟩ := R
  by_cases m : k ∈ l
  · refine add_old ho G m hb ?_
    refine hQ false s.heap (fun _ _ _ h => h) ?_
    rw [putS, if_pos m]
    exact ⟨D, ho, G, nd, hb, r, ld⟩
  · refine Froz.add_x ho G m room ?_
    refine hQ true _ (fun b o n e => PySem.Heap.get?_update_of_ne _ (fun z => n z.symm) e) ?_
    rw [putS, if_neg m]
    exact ⟨_, Froz.get_upd _ ho rfl, Froz.add_ok u G, List.nodup_cons.mpr ⟨m, nd⟩, room, addTx_ris r, by rw [addTx_led]; exact ld⟩
end
section
variable {P : Program} {w : World} {A : Around}
theorem set_update_txts {I : Addr} {fp wr : List Addr} {G : Array GenState → Array GenState → Prop} {n : Nat} {Pv : Nat → Value → Prop} {St : Nat → Shared → Prop} {R : Result → Shared → Prop}
    (W : WalksS P w A.in1 I fp wr G n Pv St) (S : Addr) (nS : S ∉ fp) (ks : List Str) (hn : n = ks.length) (few : ks.length + 1 < scanBound)
    (val : ∀ i v, Pv i v → ∃ k u, ks[i]? = some k ∧ v = .str k u) :
    ∀ (k i : Nat) (s : Shared), n - i = k → i ≤ n → St i s → (∃ l, SetS P w s.heap S l ∧ l.length ≤ i ∧ ∀ x, x ∈ l ↔ x ∈ ks.take i) →
      (∀ (s' : Shared) (l : List Str), Moved (S :: wr) G s s' → SetS P w s'.heap S l → (∀ x, x ∈ l ↔ x ∈ ks.take n) → R (.ok (.ret .none)) s') →
      codeAny (model P w) A (.builtin "set.update.loop" ⟨[.ref S, .ref I], []⟩) R s := by
  intro k
  induction k with
  | zero =>
    intro i s ek hi st ⟨l, hT, ll, g⟩ hR
    have ei : i = n := by omega
    subst ei
    refine codeAny_builtin F.entry_set_update_loop ?_
    rw [Around.under_plainId F.plain_set_update_loop _]
    show wpAny _ A.in1 (pyNext (.ref I) >>= _) _ _ _
    refine wpAny_bind (W.done s _ _ st fun s' mv => ?_)
    refine wpAny_pure ?_
    exact hR s' l ⟨fun b o nb e => mv.heap b o (fun m => nb (List.mem_cons_of_mem _ m)) e, mv.gens, mv.drawn, mv.os, mv.toks⟩ (SetS.at hT fun o e => mv.heap S o (fun m => nS (W.sub S m)) e) g
  | succ k ih =>
    intro i s ek hi st ⟨l, hT, ll, g⟩ hR
    have lt : i < n := by omega
    refine codeAny_builtin F.entry_set_update_loop ?_
    rw [Around.under_plainId F.plain_set_update_loop _]
    show wpAny _ A.in1 (pyNext (.ref I) >>= _) _ _ _
    refine wpAny_bind (W.item i s _ _ lt st fun v s1 pv st1 mv => ?_)
    obtain ⟨z, u, ez, rfl⟩ := val i v pv
    have hT1 : SetS P w s1.heap S l := SetS.at hT fun o e => mv.heap S o (fun m => nS (W.sub S m)) e
    have tk : ks.take (i + 1) = ks.take i ++ [z] := take_next ez
    show wpAny _ _ (holding [.str z u] (setAdd S (.str z u)) >>= _) _ _ _
    refine wpAny_bind (wpAny_holding (wpAny_holding (wpAny_bind ((strKind P w).pyHash (Froz.is_str z u) ?_))))
    refine setS_hashed (s := { s1 with toks := s1.toks + 1 }) hT1 (by omega) fun b h' kp2 hT' => ?_
    show wpAny _ _ (again _) _ _ _
    refine wpAny_pure ⟨plainId_quiet F.plain_set_update_loop _, ?_⟩
    have gL : ∀ x, x ∈ putS z l ↔ x ∈ ks.take (i + 1) := fun x => by
      rw [putS_mem, tk, List.mem_append, List.mem_singleton, g x]
      exact Or.comm
    refine ih (i + 1) _ (by omega) lt (W.frame (i + 1) s1 h' (s1.toks + 1) st1 (Nat.le_add_right _ _) fun b m o e => kp2 b o (fun z => nS (z ▸ m)) e) ⟨_, hT', Nat.le_trans putS_len (by omega), gL⟩ fun s' l2 mv2 hT2 g2 => ?_
    exact hR s' l2 ⟨fun b o nb e => mv2.heap b o nb (kp2 b o (fun z => nb (z ▸ List.mem_cons_self)) (mv.heap b o (fun m => nb (List.mem_cons_of_mem _ m)) e)), W.gtrans _ _ _ mv.gens mv2.gens, mv2.drawn.trans mv.drawn, mv2.os.trans mv.os, Nat.le_trans mv.toks (Nat.le_trans (Nat.le_add_right _ _) mv2.toks)⟩ hT2 g2
end
section
variable {P : Program} {w : World} {A : Around} {E : Value → Shared → Prop} {s : Shared}
theorem strs_len : ∀ {vs : List Value} {ks : List Str}, StrsAre vs ks → vs.length = ks.length
  | _, _, .nil => rfl
  | _, _, .cons _ _ h => by rw [List.length_cons, List.length_cons, strs_len h]
theorem strs_get : ∀ {vs : List Value} {ks : List Str}, StrsAre vs ks → ∀ {i : Nat} {v : Value}, vs[i]? = some v → ∃ k u, ks[i]? = some k ∧ v = .str k u
  | _, _, .nil, i, v, h => by simp at h
  | _, _, .cons _ _ t, 0, v, h => by
    simp at h
    subst h
    exact ⟨_, _, rfl, rfl⟩
  | _, _, .cons _ _ t, i + 1, v, h => by
    obtain ⟨k, u, h1, h2⟩ := strs_get t (i := i) (v := v) (by simpa using h)
    exact ⟨k, u, by simpa using h1, h2⟩
set_option maxHeartbeats 8000000 in
theorem set_of_txts_list {l : Addr} {its : Array Value} (ks : List Str) {Q : Value → Shared → Prop} (nh : A.handled = none) (isl : s.heap.IsList l its) (iv : StrsAre its.toList ks) (few : ks.length + 1 < scanBound)
    (q : ∀ (g : Heap) (tk : Nat) (l : List Str), SetS P w g s.heap.objs.size l → (∀ x, x ∈ l ↔ x ∈ ks) → (∀ b o, s.heap.get? b = some o → g.get? b = some o) →
      Q (.ref s.heap.objs.size) { s with heap := g, toks := tk }) : wpAny (model P w) A (call (.type "set") [.ref l]) Q E s := by
  have many : its.size = ks.length := by rw [← Array.length_toList]; exact strs_len iv
  obtain ⟨mc, mt, mro⟩ := F.called_set.mro
  have made := F.called_set.made; have subs := F.called_set.sub
  refine wpAny_call (codeAny_of_tree ?_); show wpAny _ _ (callAny (.type "set") _) _ _ _
  refine wpAny_pure ⟨Code.quiet_builtin _ (by decide +kernel), codeAny_builtin F.entry_type_call ?_⟩; rw [Around.under_plain (weight_type_call_type "set" [.ref l] []) rfl]
  have k1 := F.called_set.notType; have k2 := F.called_set.canCreate; have k3 := F.typeCall_set_1 (.ref l)
  repeat (any_goals (first | assumption | wp_step))
  refine codeAny_mono (code_set_led1 (.ref l) (E := E) (Q₁ := fun x t => x = .ref s.heap.objs.size ∧ t = { s with heap := s.heap.push (oSet w) }) ⟨rfl, rfl⟩) fun r t hr => ?_
  cases r with
  | error e => exact hr
  | ok fl => cases fl with
    | ret x =>
      obtain ⟨rfl, rfl⟩ := hr
      have here : (s.heap.push (oSet w)).get? s.heap.objs.size = some (oSet w) := Heap.get?_push_size _ rfl
      have typ : Shared.TypeIs { s with heap := s.heap.push (oSet w) } (.ref s.heap.objs.size) "set" := ⟨_, here, rfl⟩
      have look := F.called_set.init.lookup; have bnd := F.called_set.init.bind (.ref s.heap.objs.size)
      repeat (any_goals (first | assumption | wp_step))
      refine codeAny_mono (codeAny_call_builtin (R := wants (fun r t2 => r = .none ∧ ∃ g tk l, t2 = { s with heap := g, toks := tk } ∧ SetS P w g s.heap.objs.size l ∧ (∀ x, x ∈ l ↔ x ∈ ks) ∧ ∀ b o, s.heap.get? b = some o → g.get? b = some o) E)
        F.called_set.init.plain F.entry_set_init (check_set_init_1 typ ?_)) fun r2 t2 hr2 => ?_
      · obtain ⟨ob, hob, hc, nl, hd⟩ := isl
        obtain ⟨ocls, odict, odata, oslots⟩ := ob
        simp only at hc hd; subst hc; subst hd
        have hob2 : (s.heap.push (oSet w)).get? l = some { cls := .type "list", dict := odict, data := .seq its nl, slots := oslots } := Heap.get?_push_of_some _ hob
        have n1 := F.sub_list_set; have n2 := F.sub_list_frozenset
        have n3 : (Value.type "list" == Value.type "dict") = false := by decide
        have isl2 : (s.heap.push (oSet w)).IsList l its := ⟨_, hob2, rfl, nl, rfl⟩
        unfold Builtin.«set.__init__» noKeywords Builtin.Frozenset.updateFrom; generalize hPI : pyIter = PI; wp_walk; subst hPI
        refine wpAny_pyIter_list isl2 ?_; refine wpAny_bind (wpAny_runValue ?_)
        have lt : l < s.heap.objs.size := Heap.lt_size hob
        have nh3 : A.in1.in1.in1.handled = none := by simp [nh]
        have sz : (s.heap.push (oSet w)).objs.size = s.heap.objs.size + 1 := Heap.size_push ..
        have ne : l ≠ (s.heap.push (oSet w)).objs.size := by rw [sz]; exact Nat.ne_of_lt (Nat.lt_succ_of_lt lt)
        have out : s.heap.objs.size ∉ [(s.heap.push (oSet w)).objs.size, l] := by
          rw [sz]; intro m
          rcases List.mem_cons.mp m with m | m
          · exact Nat.ne_of_lt (Nat.lt_succ_self _) m
          · exact Nat.ne_of_gt lt (List.mem_singleton.mp m)
        have val : ∀ (i : Nat) (v : Value), its[i]? = some v → ∃ k u, ks[i]? = some k ∧ v = .str k u := fun i v hv => strs_get iv (by rw [Array.getElem?_toList]; exact hv)
        refine set_update_txts ((Walks.list nh3 _ l ne its).toS) s.heap.objs.size out ks many few val (its.size - 0) 0 _ (by omega) (Nat.zero_le _) ⟨⟨_, Heap.get?_push_size _ rfl, rfl, rfl⟩, (isl2.push _)⟩ ⟨[], SetS.at setS_empty (fun o e => Heap.get?_push_of_some _ e), Nat.le_refl _, fun x => ⟨fun m => (by cases m), fun m => (by cases m)⟩⟩ ?_
        intro t3 L3 hm hS3 hg3
        obtain ⟨g3, gen3, dr3, tk3, os3⟩ := t3
        have eg : gen3 = s.gens := hm.gens; have ed : dr3 = s.drawn := hm.drawn; have eo : os3 = s.os := hm.os
        subst eg; subst ed; subst eo
        show wpAny _ _ _ _ _ _; refine wpAny_pure ?_; show wpAny _ _ (ret Value.none) _ _ _
        refine wpAny_pure ⟨rfl, g3, tk3, L3, rfl, hS3, fun x => by rw [hg3 x, many, List.take_length], fun b o e => ?_⟩
        have lb : b < s.heap.objs.size := Heap.lt_size e
        refine hm.heap b o (fun m => ?_) (Heap.get?_push_of_some _ (Heap.get?_push_of_some _ e))
        rcases List.mem_cons.mp m with m | m
        · exact Nat.ne_of_lt lb m
        · have m := List.mem_singleton.mp m
          rw [sz] at m
          exact Nat.ne_of_lt (Nat.lt_succ_of_lt lb) m
      · cases r2 with
        | error e => exact hr2
        | ok f2 => cases f2 with
          | ret r =>
            obtain ⟨rfl, g, tk, L4, rfl, r1, r2, r3⟩ := hr2
            repeat (any_goals (first | assumption | wp_step))
            exact q _ _ _ r1 r2 r3
          | _ => exact hr2.elim
    | _ => exact hr.elim
set_option maxHeartbeats 8000000 in
theorem set_of_txts_tuple {l : Addr} {its : Array Value} (ks : List Str) {Q : Value → Shared → Prop} (nh : A.handled = none) (isl : s.heap.IsTuple l its) (iv : StrsAre its.toList ks) (few : ks.length + 1 < scanBound)
    (q : ∀ (g : Heap) (tk : Nat) (l : List Str), SetS P w g s.heap.objs.size l → (∀ x, x ∈ l ↔ x ∈ ks) → (∀ b o, s.heap.get? b = some o → g.get? b = some o) →
      Q (.ref s.heap.objs.size) { s with heap := g, toks := tk }) : wpAny (model P w) A (call (.type "set") [.ref l]) Q E s := by
  have many : its.size = ks.length := by rw [← Array.length_toList]; exact strs_len iv
  obtain ⟨mc, mt, mro⟩ := F.called_set.mro
  have made := F.called_set.made; have subs := F.called_set.sub
  refine wpAny_call (codeAny_of_tree ?_); show wpAny _ _ (callAny (.type "set") _) _ _ _
  refine wpAny_pure ⟨Code.quiet_builtin _ (by decide +kernel), codeAny_builtin F.entry_type_call ?_⟩; rw [Around.under_plain (weight_type_call_type "set" [.ref l] []) rfl]
  have k1 := F.called_set.notType; have k2 := F.called_set.canCreate; have k3 := F.typeCall_set_1 (.ref l)
  repeat (any_goals (first | assumption | wp_step))
  refine codeAny_mono (code_set_led1 (.ref l) (E := E) (Q₁ := fun x t => x = .ref s.heap.objs.size ∧ t = { s with heap := s.heap.push (oSet w) }) ⟨rfl, rfl⟩) fun r t hr => ?_
  cases r with
  | error e => exact hr
  | ok fl => cases fl with
    | ret x =>
      obtain ⟨rfl, rfl⟩ := hr
      have here : (s.heap.push (oSet w)).get? s.heap.objs.size = some (oSet w) := Heap.get?_push_size _ rfl
      have typ : Shared.TypeIs { s with heap := s.heap.push (oSet w) } (.ref s.heap.objs.size) "set" := ⟨_, here, rfl⟩
      have look := F.called_set.init.lookup; have bnd := F.called_set.init.bind (.ref s.heap.objs.size)
      repeat (any_goals (first | assumption | wp_step))
      refine codeAny_mono (codeAny_call_builtin (R := wants (fun r t2 => r = .none ∧ ∃ g tk l, t2 = { s with heap := g, toks := tk } ∧ SetS P w g s.heap.objs.size l ∧ (∀ x, x ∈ l ↔ x ∈ ks) ∧ ∀ b o, s.heap.get? b = some o → g.get? b = some o) E)
        F.called_set.init.plain F.entry_set_init (check_set_init_1 typ ?_)) fun r2 t2 hr2 => ?_
      · obtain ⟨ob, hob, hc, nl, hd⟩ := isl
        obtain ⟨ocls, odict, odata, oslots⟩ := ob
        simp only at hc hd; subst hc; subst hd
        have hob2 : (s.heap.push (oSet w)).get? l = some { cls := .type "tuple", dict := odict, data := .seq its nl, slots := oslots } := Heap.get?_push_of_some _ hob
        have n1 := F.sub_tuple_set; have n2 := F.sub_tuple_frozenset
        have n3 : (Value.type "tuple" == Value.type "dict") = false := by decide
        have isl2 : (s.heap.push (oSet w)).IsTuple l its := ⟨_, hob2, rfl, nl, rfl⟩
        unfold Builtin.«set.__init__» noKeywords Builtin.Frozenset.updateFrom; generalize hPI : pyIter = PI; wp_walk; subst hPI
        refine wpAny_pyIter_tuple isl2 ?_; refine wpAny_bind (wpAny_runValue ?_)
        have lt : l < s.heap.objs.size := Heap.lt_size hob
        have nh3 : A.in1.in1.in1.handled = none := by simp [nh]
        have sz : (s.heap.push (oSet w)).objs.size = s.heap.objs.size + 1 := Heap.size_push ..
        have ne : l ≠ (s.heap.push (oSet w)).objs.size := by rw [sz]; exact Nat.ne_of_lt (Nat.lt_succ_of_lt lt)
        have out : s.heap.objs.size ∉ [(s.heap.push (oSet w)).objs.size, l] := by
          rw [sz]; intro m
          rcases List.mem_cons.mp m with m | m
          · exact Nat.ne_of_lt (Nat.lt_succ_self _) m
          · exact Nat.ne_of_gt lt (List.mem_singleton.mp m)
        have val : ∀ (i : Nat) (v : Value), its[i]? = some v → ∃ k u, ks[i]? = some k ∧ v = .str k u := fun i v hv => strs_get iv (by rw [Array.getElem?_toList]; exact hv)
        refine set_update_txts ((Walks.tuple nh3 _ l ne its).toS) s.heap.objs.size out ks many few val (its.size - 0) 0 _ (by omega) (Nat.zero_le _) ⟨⟨_, Heap.get?_push_size _ rfl, rfl, rfl⟩, (isl2.push _)⟩ ⟨[], SetS.at setS_empty (fun o e => Heap.get?_push_of_some _ e), Nat.le_refl _, fun x => ⟨fun m => (by cases m), fun m => (by cases m)⟩⟩ ?_
        intro t3 L3 hm hS3 hg3
        obtain ⟨g3, gen3, dr3, tk3, os3⟩ := t3
        have eg : gen3 = s.gens := hm.gens; have ed : dr3 = s.drawn := hm.drawn; have eo : os3 = s.os := hm.os
        subst eg; subst ed; subst eo
        show wpAny _ _ _ _ _ _; refine wpAny_pure ?_; show wpAny _ _ (ret Value.none) _ _ _
        refine wpAny_pure ⟨rfl, g3, tk3, L3, rfl, hS3, fun x => by rw [hg3 x, many, List.take_length], fun b o e => ?_⟩
        have lb : b < s.heap.objs.size := Heap.lt_size e
        refine hm.heap b o (fun m => ?_) (Heap.get?_push_of_some _ (Heap.get?_push_of_some _ e))
        rcases List.mem_cons.mp m with m | m
        · exact Nat.ne_of_lt lb m
        · have m := List.mem_singleton.mp m
          rw [sz] at m
          exact Nat.ne_of_lt (Nat.lt_succ_of_lt lb) m
      · cases r2 with
        | error e => exact hr2
        | ok f2 => cases f2 with
          | ret r =>
            obtain ⟨rfl, g, tk, L4, rfl, r1, r2, r3⟩ := hr2
            repeat (any_goals (first | assumption | wp_step))
            exact q _ _ _ r1 r2 r3
          | _ => exact hr2.elim
    | _ => exact hr.elim
end
end DL
set_option Elab.async false
set_option linter.all false
set_option maxRecDepth 100000
set_option maxHeartbeats 1000000
namespace DL
open PySem PySem.Spec PyProof.Rows L2
variable [Tb]
def rSetS (K : PySem.W.Frag) (P : Program) (w : World) : List V → Hp → VK → Prop := fun vs H Q => ∃ (l : Addr) (ks : List Str), vs = [V.ref l] ∧ (SqL K H l (ks.map V.str) ∨ SqT K H l (ks.map V.str)) ∧ ks.length + 1 < scanBound ∧
  ∀ (a : Addr) (z : List Str), H a = none → z.Nodup → (∀ x, x ∈ z ↔ x ∈ ks) → Q (.ref a) (upd H a (SetSO P w a z))
section
variable {X : Cx} {a : Expr} {pos p p2 q : Pos} {w : WD}
theorem strs_are : ∀ {ks : List Str} {us : List Value}, Vals (ks.map V.str) us → StrsAre us ks
  | [], _, .nil => .nil
  | k :: ks, _, .cons r t => by
    have r : ∃ u, _ = Value.str k u := r
    obtain ⟨u, rfl⟩ := r
    exact .cons k u (strs_are t)
theorem cr_setS (hc : X.calm = true) : CallR X (.type "set") (rSetS X.K X.prog X.w) := by
  intro pins s σ H vs us Q I r h
  obtain ⟨l, ks, rfl, hq, few, q⟩ := h
  rw [Vals.ref1 r]
  have fin : ∀ (g : Heap) (tk : Nat) (z : List Str), SetS X.prog X.w g s.heap.objs.size z → (∀ x, x ∈ z ↔ x ∈ ks) → (∀ b o, s.heap.get? b = some o → g.get? b = some o) →
      EP X pins σ Q (.ref s.heap.objs.size) { s with heap := g, toks := tk } := fun g tk z T gd k => by
    have hn : H s.heap.objs.size = none := I.hok.fresh (Nat.le_refl _)
    have J : Inv X pins σ (upd H s.heap.objs.size (SetSO X.prog X.w s.heap.objs.size z)) { s with heap := g, toks := tk } :=
      I.call (ch := []) (Un.laid k (Nat.le_refl _) hn) (I.hok.laid k (Nat.le_refl _) (setSO_new T)) I.bare (fun _ z => nomatch z)
    have nd : z.Nodup := by
      obtain ⟨_, _, _, nd, _⟩ := T
      exact nd
    exact ⟨.ref s.heap.objs.size, _, J, rfl, q _ z hn nd gd⟩
  rcases hq with hq | hq
  · obtain ⟨its, rv, pl, hz⟩ := I.list hq
    exact set_of_txts_list ks (I.ok.hd hc) pl.isList (by simpa using strs_are rv) few fin
  · obtain ⟨its, rv, pt, hz⟩ := I.tuple hq
    exact set_of_txts_tuple ks (I.ok.hd hc) pt (by simpa using strs_are rv) few fin
theorem all_strs {K : PySem.W.Frag} {H : Hp} : ∀ {us : List V} {ks : List Str}, DxAll K H us (ks.map PyData.str) → us = ks.map V.str
  | _, [], .nil => rfl
  | _, k :: ks, .cons h t => by
    cases h
    rw [List.map_cons, all_strs t]
theorem strs_dx {K : PySem.W.Frag} {H : Hp} : ∀ l : List Str, DxAll K H (l.map V.str) (l.map PyData.str)
  | [] => .nil
  | i :: l => .cons (.str _) (strs_dx l)
/-- sorted(set(xs)) of texts -/
def dSrtS (d : PyData) (Q : RV → Prop) : Prop := dItems d fun ds => ∃ ks : List Str, ds = ks.map PyData.str ∧ ks.length ≤ 1000 ∧ ∀ ys : List Str, sortedS ys = true → ys.Nodup → (∀ x, x ∈ ys ↔ x ∈ ks) → Q (.fr (ys.map PyData.str))
theorem dSrtS_mo {d : PyData} {Q Q' : RV → Prop} (k : ∀ z, Q z → Q' z) (q : dSrtS d Q) : dSrtS d Q' := dItems_mo (fun ds ⟨ks, e, l, z⟩ => ⟨ks, e, l, fun ys a b c => k _ (z ys a b c)⟩) q
theorem evr_sortedSetS (h : Ev .sh X a w) (hc : X.calm = true) (hm : X.mg "sorted" = none) (hm2 : X.mg "set" = none)
    (hg : Gl X "sorted" := by rfl) (hg2 : Gl X "set" := by rfl)
    (na : starEach [a] X.env = (false, eval a X.env) :: starEach [] X.env := by rfl)
    (nb : starEach [.Call (.Name "set" p2) [a] [] q] X.env = (false, eval (.Call (.Name "set" p2) [a] [] q) X.env) :: starEach [] X.env := by rfl) :
    EvR X (.Call (.Name "sorted" p) [.Call (.Name "set" p2) [a] [] q] [] pos) (fun sd Q => w sd fun d => dSrtS d Q) where
  pe := PE.weak (pe_callB (cr_sortS hc) hg hm (by decide +kernel) (pa_cons (pe_callTy (cr_setS hc) hg2 hm2 (by decide +kernel) (pa_cons h.pe pa_nil na) (he := na)) pa_nil nb) (he := nb)) fun σ H Q ⟨c, sd, os, hk, r, q⟩ =>
    ⟨c, sd, os, hk, r, h.mo _ _ _ (fun d kq v H1 x1 dm => by
      have r1 := r.grow x1
      have fin : ∀ (ks : List Str) (l : Addr), ks.length ≤ 1000 → (∀ ys : List Str, sortedS ys = true → ys.Nodup → (∀ x, x ∈ ys ↔ x ∈ ks) → ∀ v H', Ext c.S H H' → RvR X.K (OO c os) H H' v (.fr (ys.map PyData.str)) → Q v H') → v = V.ref l → (SqL X.K H1 l (ks.map V.str) ∨ SqT X.K H1 l (ks.map V.str)) →
          rSetS X.K X.prog X.w [v] H1 fun x H2 => rSortS X.prog X.w [x] H2 Q := fun ks l hl kq e hs => by
        refine ⟨l, ks, by rw [e], hs, by have : (1001 : Nat) < scanBound := by decide
                                         omega, fun p1 z hp1 nd hz => ?_⟩
        have lz : z.length ≤ ks.length := nodup_le nd fun x m => (hz x).mp m
        refine ⟨p1, z, rfl, upd_same, by rw [sizeLine_eq]; omega, fun ys p3 pm ss hp3 => ?_⟩
        have n13 : p3 ≠ p1 := fun z => by rw [z, upd_same] at hp3; cases hp3
        have hp3' : H1 p3 = none := by rw [upd_ne n13] at hp3; exact hp3
        have x2 : Ext c.S H1 (upd (upd H1 p1 (SetSO X.prog X.w p1 z)) p3 (.lst (ys.map V.str))) := (Ext.of (same_new hp1)).trans (Ext.of (same_new hp3))
        refine kq ys ss (pm.nodup_iff.mpr nd) (fun x => by rw [pm.mem_iff]; exact hz x) _ _ (x1.trans x2) (RvR.from r.sO (fun a m => r1.there m) x1 ?_)
        exact ⟨p3, _, rfl, hp3', upd_same, strs_dx ys⟩
      unfold dSrtS dItems at kq
      split at kq
      · obtain ⟨ks, rfl, hl, kq⟩ := kq
        obtain ⟨l, us, rfl, h1, h2⟩ := dm
        obtain rfl := all_strs h2
        exact fin ks l hl kq rfl (.inl (.inl (.inl (hid_some h1).2)))
      · obtain ⟨ks, rfl, hl, kq⟩ := kq
        obtain ⟨l, us, rfl, h1, h2⟩ := shTup dm
        obtain rfl := all_strs h2
        exact fin ks l hl kq rfl (.inr (SqT.same hid_sub h1))
      · exact kq.elim) q⟩
  mo := fun sd Q Q' k q => h.mo _ _ _ (fun d z => dSrtS_mo k z) q
end
end DL
set_option Elab.async false
set_option linter.all false
set_option maxRecDepth 100000
set_option maxHeartbeats 4000000
namespace K02
open PySem PySem.Spec PyProof.Rows L2 DL
variable [Tb]
def topS (i : Nat) : Stmt := PySem.Challenge.pw_everrows_k02_sizes_depths_letters.main.body.getD i (.Pass ⟨0, 0, 0, 0⟩)
abbrev s_inner_first : Stmt := topS 1
theorem sc_inner_first : FnScope ["whole", "parts_of", "found", "waiting", "part"] ["whole", "parts_of"] (defScope s_inner_first) := ⟨rfl, rfl, rfl, by decide +kernel, rfl, by decide +kernel, by decide +kernel⟩
abbrev s_each_told : Stmt := topS 2
theorem sc_each_told : FnScope ["whole", "parts_of", "tell", "made", "waiting", "part", "first"] ["whole", "parts_of", "tell"] (defScope s_each_told) := ⟨rfl, rfl, rfl, by decide +kernel, rfl, by decide +kernel, by decide +kernel⟩
abbrev s_depth_within : Stmt := topS 3
theorem sc_depth_within : FnScope ["whole", "parts_of"] ["whole", "parts_of"] (defScope s_depth_within) := ⟨rfl, rfl, rfl, by decide +kernel, rfl, by decide +kernel, by decide +kernel⟩
abbrev s__depth_over : Stmt := topS 4
theorem sc__depth_over : FnScope ["_part", "depths"] ["_part", "depths"] (defScope s__depth_over) := ⟨rfl, rfl, rfl, by decide +kernel, rfl, by decide +kernel, by decide +kernel⟩
abbrev s_parts_of : Stmt := topS 6
theorem sc_parts_of : FnScope ["row", "word", "told"] ["row"] (defScope s_parts_of) := ⟨rfl, rfl, rfl, by decide +kernel, rfl, by decide +kernel, by decide +kernel⟩
abbrev s_size_of : Stmt := topS 7
theorem sc_size_of : FnScope ["row"] ["row"] (defScope s_size_of) := ⟨rfl, rfl, rfl, by decide +kernel, rfl, by decide +kernel, by decide +kernel⟩
abbrev s_depth_of : Stmt := topS 8
theorem sc_depth_of : FnScope ["row"] ["row"] (defScope s_depth_of) := ⟨rfl, rfl, rfl, by decide +kernel, rfl, by decide +kernel, by decide +kernel⟩
abbrev s_row_letters : Stmt := topS 9
theorem sc_row_letters : FnScope ["row", "part"] ["row"] (defScope s_row_letters) := ⟨rfl, rfl, rfl, by decide +kernel, rfl, by decide +kernel, by decide +kernel⟩
abbrev s__law_open_cells : Stmt := topS 11
theorem sc__law_open_cells : FnScope ["_law_script", "_law_stirred", "_law_cell", "_law_cells"] ["_law_script"] (defScope s__law_open_cells) := ⟨rfl, rfl, rfl, by decide +kernel, rfl, by decide +kernel, by decide +kernel⟩
abbrev s__law_pick : Stmt := topS 12
theorem sc__law_pick : FnScope ["_law_source", "_law_most", "_law_cells", "_law_others", "_law_lap", "_law_stirred"] ["_law_source", "_law_most"] (defScope s__law_pick) := ⟨rfl, rfl, rfl, by decide +kernel, rfl, by decide +kernel, by decide +kernel⟩
abbrev s__law_draw_row : Stmt := topS 13
theorem sc__law_draw_row : FnScope ["_law_source", "_law_letters_here", "_law_most", "_law_road", "_law_many", "_law_k"] ["_law_source", "_law_letters_here", "_law_most"] (defScope s__law_draw_row) := ⟨rfl, rfl, rfl, by decide +kernel, rfl, by decide +kernel, by decide +kernel⟩
abbrev s__law_choice_of : Stmt := topS 14
theorem sc__law_choice_of : FnScope ["_law_source", "_law_things"] ["_law_source", "_law_things"] (defScope s__law_choice_of) := ⟨rfl, rfl, rfl, by decide +kernel, rfl, by decide +kernel, by decide +kernel⟩
abbrev s__law_parts : Stmt := topS 15
theorem sc__law_parts : FnScope ["_law_row"] ["_law_row"] (defScope s__law_parts) := ⟨rfl, rfl, rfl, by decide +kernel, rfl, by decide +kernel, by decide +kernel⟩
abbrev s__law_size : Stmt := topS 16
theorem sc__law_size : FnScope ["_law_row", "_law_one"] ["_law_row"] (defScope s__law_size) := ⟨rfl, rfl, rfl, by decide +kernel, rfl, by decide +kernel, by decide +kernel⟩
abbrev s__law_depth : Stmt := topS 17
theorem sc__law_depth : FnScope ["_law_row", "_law_one"] ["_law_row"] (defScope s__law_depth) := ⟨rfl, rfl, rfl, by decide +kernel, rfl, by decide +kernel, by decide +kernel⟩
abbrev s__law_letters : Stmt := topS 18
theorem sc__law_letters : FnScope ["_law_row", "_law_one"] ["_law_row"] (defScope s__law_letters) := ⟨rfl, rfl, rfl, by decide +kernel, rfl, by decide +kernel, by decide +kernel⟩
abbrev s__law_wrapped : Stmt := topS 19
theorem sc__law_wrapped : FnScope ["_law_source", "_law_row", "_law_letters_here", "_law_c"] ["_law_source", "_law_row", "_law_letters_here"] (defScope s__law_wrapped) := ⟨rfl, rfl, rfl, by decide +kernel, rfl, by decide +kernel, by decide +kernel⟩
abbrev s__law_draw_fit_row : Stmt := topS 20
theorem sc__law_draw_fit_row : FnScope ["_law_source", "_law_letters_here", "_law_kind", "_law_parts_here", "_law_lap", "_law_row"] ["_law_source", "_law_letters_here"] (defScope s__law_draw_fit_row) := ⟨rfl, rfl, rfl, by decide +kernel, rfl, by decide +kernel, by decide +kernel⟩
abbrev s_law : Stmt := topS 21
theorem sc_law : FnScope ["_law_script", "_law_source", "_law_lap", "_law_row", "_law_due", "_law_again", "_law_told"] ["_law_script"] (defScope s_law) := ⟨rfl, rfl, rfl, by decide +kernel, rfl, by decide +kernel, by decide +kernel⟩
/-- what stands at the top of the module -/
structure Top (K : PySem.W.Frag) (mg : Str → Option Value) (base : Heap) where
  f_inner_first : Addr
  d_inner_first : FuncData
  F_inner_first : Fun K "inner_first" "inner_first" s_inner_first f_inner_first d_inner_first
  C_inner_first : Cal K mg "inner_first" f_inner_first d_inner_first ["whole", "parts_of"]
  f_each_told : Addr
  d_each_told : FuncData
  F_each_told : Fun K "each_told" "each_told" s_each_told f_each_told d_each_told
  C_each_told : Cal K mg "each_told" f_each_told d_each_told ["whole", "parts_of", "tell"]
  f_depth_within : Addr
  d_depth_within : FuncData
  F_depth_within : Fun K "depth_within" "depth_within" s_depth_within f_depth_within d_depth_within
  C_depth_within : Cal K mg "depth_within" f_depth_within d_depth_within ["whole", "parts_of"]
  f__depth_over : Addr
  d__depth_over : FuncData
  F__depth_over : Fun K "_depth_over" "_depth_over" s__depth_over f__depth_over d__depth_over
  C__depth_over : Cal K mg "_depth_over" f__depth_over d__depth_over ["_part", "depths"]
  f_parts_of : Addr
  d_parts_of : FuncData
  F_parts_of : Fun K "parts_of" "parts_of" s_parts_of f_parts_of d_parts_of
  C_parts_of : Cal K mg "parts_of" f_parts_of d_parts_of ["row"]
  f_size_of : Addr
  d_size_of : FuncData
  F_size_of : Fun K "size_of" "size_of" s_size_of f_size_of d_size_of
  C_size_of : Cal K mg "size_of" f_size_of d_size_of ["row"]
  f_depth_of : Addr
  d_depth_of : FuncData
  F_depth_of : Fun K "depth_of" "depth_of" s_depth_of f_depth_of d_depth_of
  C_depth_of : Cal K mg "depth_of" f_depth_of d_depth_of ["row"]
  f_row_letters : Addr
  d_row_letters : FuncData
  F_row_letters : Fun K "row_letters" "row_letters" s_row_letters f_row_letters d_row_letters
  C_row_letters : Cal K mg "row_letters" f_row_letters d_row_letters ["row"]
  f__law_open_cells : Addr
  d__law_open_cells : FuncData
  F__law_open_cells : Fun K "_law_open_cells" "_law_open_cells" s__law_open_cells f__law_open_cells d__law_open_cells
  C__law_open_cells : Cal K mg "_law_open_cells" f__law_open_cells d__law_open_cells ["_law_script"]
  f__law_pick : Addr
  d__law_pick : FuncData
  F__law_pick : Fun K "_law_pick" "_law_pick" s__law_pick f__law_pick d__law_pick
  C__law_pick : Cal K mg "_law_pick" f__law_pick d__law_pick ["_law_source", "_law_most"]
  f__law_draw_row : Addr
  d__law_draw_row : FuncData
  F__law_draw_row : Fun K "_law_draw_row" "_law_draw_row" s__law_draw_row f__law_draw_row d__law_draw_row
  C__law_draw_row : Cal K mg "_law_draw_row" f__law_draw_row d__law_draw_row ["_law_source", "_law_letters_here", "_law_most"]
  f__law_choice_of : Addr
  d__law_choice_of : FuncData
  F__law_choice_of : Fun K "_law_choice_of" "_law_choice_of" s__law_choice_of f__law_choice_of d__law_choice_of
  C__law_choice_of : Cal K mg "_law_choice_of" f__law_choice_of d__law_choice_of ["_law_source", "_law_things"]
  f__law_parts : Addr
  d__law_parts : FuncData
  F__law_parts : Fun K "_law_parts" "_law_parts" s__law_parts f__law_parts d__law_parts
  C__law_parts : Cal K mg "_law_parts" f__law_parts d__law_parts ["_law_row"]
  f__law_size : Addr
  d__law_size : FuncData
  F__law_size : Fun K "_law_size" "_law_size" s__law_size f__law_size d__law_size
  C__law_size : Cal K mg "_law_size" f__law_size d__law_size ["_law_row"]
  f__law_depth : Addr
  d__law_depth : FuncData
  F__law_depth : Fun K "_law_depth" "_law_depth" s__law_depth f__law_depth d__law_depth
  C__law_depth : Cal K mg "_law_depth" f__law_depth d__law_depth ["_law_row"]
  f__law_letters : Addr
  d__law_letters : FuncData
  F__law_letters : Fun K "_law_letters" "_law_letters" s__law_letters f__law_letters d__law_letters
  C__law_letters : Cal K mg "_law_letters" f__law_letters d__law_letters ["_law_row"]
  f__law_wrapped : Addr
  d__law_wrapped : FuncData
  F__law_wrapped : Fun K "_law_wrapped" "_law_wrapped" s__law_wrapped f__law_wrapped d__law_wrapped
  C__law_wrapped : Cal K mg "_law_wrapped" f__law_wrapped d__law_wrapped ["_law_source", "_law_row", "_law_letters_here"]
  f__law_draw_fit_row : Addr
  d__law_draw_fit_row : FuncData
  F__law_draw_fit_row : Fun K "_law_draw_fit_row" "_law_draw_fit_row" s__law_draw_fit_row f__law_draw_fit_row d__law_draw_fit_row
  C__law_draw_fit_row : Cal K mg "_law_draw_fit_row" f__law_draw_fit_row d__law_draw_fit_row ["_law_source", "_law_letters_here"]
  f_law : Addr
  d_law : FuncData
  F_law : Fun K "law" "law" s_law f_law d_law
  b_abs : mg "abs" = none
  b_int : mg "int" = none
  b_isinstance : mg "isinstance" = none
  b_len : mg "len" = none
  b_list : mg "list" = none
  b_max : mg "max" = none
  b_range : mg "range" = none
  b_repr : mg "repr" = none
  b_set : mg "set" = none
  b_sorted : mg "sorted" = none
  b_str : mg "str" = none
  b_sum : mg "sum" = none
  b_tuple : mg "tuple" = none
section
variable {P : Program} {w : World} {K : PySem.W.Frag} {mg : Str → Option Value} {base : Heap}
theorem ok_open {f : Addr} {fd : FuncData} (F : Fun K "_law_open_cells" "_law_open_cells" s__law_open_cells f fd) (b_int : mg "int" = none) (b_abs : mg "abs" = none) :
    FnG P w K mg base CX0 1 f fd ["_law_script"] (spOpen K) := by
  refine fn_body F sc__law_open_cells (fun vs H Q E ⟨a, ns, e, _⟩ => by rw [e]; rfl) fun cdv A outer s H vs Q E hr hsp => ?_
  obtain ⟨a, ns, rfl, hS, hlen, q⟩ := hsp
  have nd := sc__law_open_cells.nd
  refine ⟨_, (pss_cons (ps_set (i := 1) nd rfl (.inl rfl) pe_int)
    (pss_cons (ps_for PassesOwn.never rfl (pi_list (pv 0)) (pg_name (i := 2) nd rfl (.inl rfl))
      (pss_one (ps_set (i := 1) nd rfl (.inl rfl) (pe_op op_mod (pe_callTy call_int1 (by rfl) b_int (by decide +kernel) (pa_cons (pe_op op_add (pe_op op_add (pe_op op_mul (pv 1) pe_int) (pe_op op_mul (pv 2) pe_int)) pe_int) pa_nil)) pe_int))))
    (pss_cons (ps_setLc (i := 3) (own := [("_law_cell", 2)]) (g := gName 2) (tt := tYes) rfl nd rfl rfl (sw_true rfl rfl rfl (by decide +kernel)) (pi_list (pv 0))
      (blkOk_by (N := ["_law_script", "_law_stirred", "_law_cell", "_law_cells"]) (sc := defScope s__law_open_cells) (by decide +kernel))
      (fun _ _ _ _ _ => pg_name (i := 2) nd rfl (.inl rfl)) (fun _ _ _ _ _ => pts_nil) (fun _ _ _ _ _ => pe_callB call_abs (by rfl) b_abs (by decide +kernel) (pa_cons (pv 2) pa_nil)))
    (pss_one (ps_ret (pe_disp (pps_cons pe_str (pe_revL (pv 3)) (pps_cons pe_str pe_int (pps_cons pe_str (pv 1) (pps_cons pe_str pe_int pps_nil)))) (by decide) rfl (by decide) (by decide)))))) :
      PSs (cxOf CX0 P w K mg base ["_law_script", "_law_stirred", "_law_cell", "_law_cells"] "_law_open_cells" (defScope s__law_open_cells) f cdv A outer s H E).nox _ _).nox, ?_⟩
  refine ⟨_, rfl, a, rfl, ⟨_, hS⟩, for_list (xs := ns.map V.int) (fun i σ H3 => ∃ (z : Int) (y : Option V), σ = [some (.ref a), some (.int z), y, none] ∧ H3 = H) ⟨11, none, rfl, rfl⟩ (fun i σ H3 _ ⟨z, y, _, e⟩ => by rw [e]; exact hS) (fun i x σ H3 hx ⟨z, y, e1, e2⟩ => ?_) (fun σ H3 ⟨z, y, e1, e2⟩ => ?_)⟩
  · subst e1 e2
    rw [List.getElem?_map] at hx
    cases g : ns[i]? with
    | none => rw [g] at hx; cases hx
    | some n =>
      rw [g] at hx
      cases hx
      refine ⟨_, rfl, _, _, rfl, rfl, .inr (by decide), _, rfl, _, _, rfl, rfl, .inr (by decide), _, _, rfl, rfl, _, _, rfl, rfl, .inl ⟨_, rfl, _, _, rfl, rfl, (by show (0 : Int) < 2147483629; decide), _, _, rfl, rfl⟩⟩
  · subst e1 e2
    refine ⟨_, rfl, a, rfl, ⟨_, hS⟩, fun D hD => ?_⟩
    refine lc_list (xs := ns.map V.int) (fun i H4 => ∃ ms : List Int, ms.length = i ∧ Same H3 H4 ∧ H4 D = some (.lst (ms.map V.int))) ⟨[], rfl, same_new hD, upd_same⟩ (fun i H4 _ ⟨ms, _, sm, _⟩ => Same.seq sm hS) (fun i x H4 hx ⟨ms, em, sm, ed⟩ => ?_) (fun H4 ⟨ms, em, sm, ed⟩ => ?_)
    · rw [List.getElem?_map] at hx
      cases g : ns[i]? with
      | none => rw [g] at hx; cases hx
      | some n =>
        rw [g] at hx
        cases hx
        refine ⟨rfl, ?_⟩
        simp only [tYes, if_true]
        have hi : i < ns.length := (List.getElem?_eq_some_iff.mp g).1
        refine ⟨_, rfl, n, rfl, _, ed, by rw [List.length_map, sizeLine_eq]; omega, ms ++ [if n < 0 then -n else n], by rw [List.length_append, em]; rfl, fun b o e => ?_, ?_⟩
        · rw [upd_ne (ne_of_none e hD)]; exact sm _ _ e
        · rw [upd_same, List.map_append]; rfl
    · -- the dict
      intro p hp
      have npD : p ≠ D := fun e => by rw [e, ed] at hp; cases hp
      refine ⟨_, rfl, D, _, rfl, .inl (.inl (by rw [upd_ne (Ne.symm npD)]; exact ed)), fun R hR => ⟨_, rfl, ?_⟩⟩
      have npR : p ≠ R := fun e => by rw [← e, upd_same] at hR; cases hR
      refine ⟨by rw [upd_ne npR, upd_same], [(kyC, .ref R), (kyL, .int 1), (kyM, .int z), (kyT, .int 0)], rfl, (by show 4 ≤ 15; decide), ?_⟩
      rw [merge4]
      have hpH : H3 p = none := sm.free hp
      have hRH : H3 R = none := by
        have : H4 R = none := by rw [upd_ne (Ne.symm npR)] at hR; exact hR
        exact sm.free this
      refine q _ p R (fun b o e => ?_) hpH hRH ⟨ms.reverse, 1, z, 0, upd_same, ?_, ?_⟩
      · rw [upd_ne (ne_of_none e hpH), upd_ne (ne_of_none e hRH), upd_ne (ne_of_none e hpH)]
        exact sm _ _ e
      · rw [upd_ne (Ne.symm npR), upd_same, List.map_reverse]
      · rw [List.length_reverse, em, List.length_map]; exact hlen
theorem ok_pick {f : Addr} {fd : FuncData} (F : Fun K "_law_pick" "_law_pick" s__law_pick f fd) (b_int : mg "int" = none) (b_len : mg "len" = none) :
    FnG P w K mg base CX0 1 f fd ["_law_source", "_law_most"] (PSp K 2 fsPick) := by
  refine fn_body F sc__law_pick (fun vs H Q E ⟨S', Oc, as, h1, h2, h3, h4, h5, h6⟩ => h4.len.trans h5) fun cdv A outer s H vs Q E hr hsp => ?_
  have nd := sc__law_pick.nd
  have hu := hu_of hr.rm
  obtain ⟨S', Oc, as, h1, h2, h3, h4, h5, h6⟩ := hsp
  refine ⟨_, (pss_cons (ps_if (pt_cmpR op_lt (pv 1) pe_int (nomark _)) (pss_one (ps_ret pe_int)) pss_nil)
    (pss_cons (ps_set (i := 2) nd rfl (.inl rfl) (pe_dget hu (pv 0) pe_str (fun _ _ => rfl)))
    (pss_cons (ps_while PassesOwn.never (PW.pt (pw_and (pt_cmpR op_lt (pe_dget hu (pv 0) pe_str (fun _ _ => rfl)) pe_int (nomark _)) (pw_and1 (pt_cmpR op_gt (pe_callB call_len_seq (by rfl) b_len PySem.boot_len (pa_cons (pv 2) pa_nil)) pe_int (nomark _)))))
      (pss_one (ps_dput hu (pv 0) pe_str (pe_bm0 PySem.F.plainAttrs_list PySem.F.slot_list_pop PySem.F.type_list_pop mt_pop (pv 2)) rfl)))
    (pss_cons (ps_set (i := 3) nd rfl (.inl rfl) (pe_dget hu (pv 0) pe_str (fun _ _ => rfl)))
    (pss_cons (ps_if (pt_cmpR op_gt (pv 3) pe_int (nomark _)) (pss_cons (ps_dput hu (pv 0) pe_str (pe_op op_fdivW (pv 3) (pv 1)) rfl)
      (pss_one (ps_ret (pe_op op_mod (pe_callTy call_int1 (by rfl) b_int (by decide +kernel) (pa_cons (pv 3) pa_nil)) (pv 1))))) pss_nil)
    (pss_cons (ps_dput hu (pv 0) pe_str (pe_op op_add (pe_dget hu (pv 0) pe_str (fun _ _ => rfl)) pe_int) rfl)
    (pss_cons (ps_set (i := 4) nd rfl (.inl rfl) (pe_dget hu (pv 0) pe_str (fun _ _ => rfl)))
    (pss_cons (ps_set (i := 5) nd rfl (.inl rfl) (pe_op op_mod (pe_callTy call_int1 (by rfl) b_int (by decide +kernel) (pa_cons (pe_op op_add (pe_dget hu (pv 0) pe_str (fun _ _ => rfl)) (pe_op op_mul (pv 4) pe_int)) pa_nil)) pe_int))
    (pss_cons (ps_set (i := 5) nd rfl (.inl rfl) (pe_op op_mod (pe_callTy call_int1 (by rfl) b_int (by decide +kernel) (pa_cons (pe_op op_add (pe_op op_mul (pv 5) (pv 5)) (pe_op op_mul (pv 4) pe_int)) pa_nil)) pe_int))
    (pss_one (ps_ret (pe_op op_mod (pe_callTy call_int1 (by rfl) b_int (by decide +kernel) (pa_cons (pe_op op_fdiv (pv 5) pe_int) pa_nil)) (pv 1)))))))))))) :
      PSs (cxOf CX0 P w K mg base ["_law_source", "_law_most", "_law_cells", "_law_others", "_law_lap", "_law_stirred"] "_law_pick" (defScope s__law_pick) f cdv A outer s H E).nox _ _).nox, ?_⟩
  unfold fsPick at h6
  split at h6
  · rename_i m
    obtain ⟨hm, q⟩ := h6
    cases h4 with
    | @so a c _ _ eS t =>
    cases t with
    | va dm t =>
    cases t
    cases dm
    have noS : ∀ {b : Addr} {o : HO} {H1 : Hp}, b ∉ [a, c] → upd H1 a o b = H1 b := fun {b o H1} n => upd_ne fun z => n (by rw [z]; exact List.mem_cons_self)
    have noC : ∀ {b : Addr} {o : HO} {H1 : Hp}, b ∉ [a, c] → upd H1 c o b = H1 b := fun {b o H1} n => upd_ne fun z => n (by rw [z]; exact List.mem_cons_of_mem _ List.mem_cons_self)
    obtain ⟨cells0, l0, m0, t0, e1, e2, e3⟩ : SrcAt H a c := by
      rcases h1.1 with z | ⟨a', c', z, sa⟩
      · rw [eS] at z
        have := congrArg List.length z
        simp only [List.length_cons] at this
        omega
      · rw [eS] at z; cases z; exact sa
    have ac : a ≠ c := ne_of e1 e2 (by intro z; cases z)
    -- the end of each way
    have fin : ∀ (H' : Hp) (r : Int), (∀ b o, b ∉ [a, c] → H b = some o → H' b = some o) → SrcAt H' a c → 0 ≤ r → (r < m ∨ r = 0) → Q (.int r) H' := fun H' r st sa r0 r1 =>
      q r r0 r1 _ H' ⟨fun b o n e => st b o (fun m => n (by
        rw [eS]
        rcases List.mem_cons.mp m with z | z
        · rw [z]; exact List.mem_cons_self
        · rw [List.mem_singleton.mp z]; exact List.mem_cons_of_mem _ List.mem_cons_self)) e, fun _ => ⟨.inr ⟨a, c, eS, sa⟩, fun P m => by
        obtain ⟨ps, e, ok⟩ := h1.2 P m
        refine ⟨ps, st P _ (fun z => ?_) e, ok⟩
        rcases List.mem_cons.mp z with z | z
        · rw [z, e1] at e; cases e
        · rw [List.mem_singleton.mp z, e2] at e; cases e⟩⟩ (.int r)
    refine ⟨_, rfl, _, _, rfl, rfl, _, rfl, ite2 (fun hlt => ?_) (fun hge => ?_)⟩
    · exact fin H 0 (fun _ _ _ e => e) ⟨cells0, l0, m0, t0, e1, e2, e3⟩ (Int.le_refl _) (.inr rfl)
    · have m2 : 2 ≤ m := by
        have : ¬ m < 2 := fun z => hge (decide_eq_true z)
        omega
      have hb : m.natAbs < 2 ^ 60 := by
        have e2 : (2 : Nat) ^ 60 = 1152921504606846976 := by decide
        omega
      refine ⟨_, rfl, a, _, rfl, g4_cells e1, ?_⟩
      refine ⟨fun k σ H' => ∃ (cells : List Int) (l : Int), k = cells.length ∧ σ = [some (.ref a), some (.int m), some (.ref c), none, none, none] ∧ H' a = some (.dK (kvs4 c l m0 t0)) ∧
        H' c = some (.lst (cells.map V.int)) ∧ cells.length ≤ 63 ∧ ∀ b o, b ∉ [a, c] → H b = some o → H' b = some o, ⟨_, cells0, l0, rfl, rfl, e1, e2, e3, fun _ _ _ e => e⟩, ?_⟩
      rintro k σ H' ⟨cells, l, rfl, rfl, f1, f2, f3, f4⟩
      have here : SrcAt H' a c := ⟨cells, l, m0, t0, f1, f2, f3⟩
      have upd_st : ∀ {o : HO}, ∀ b u, b ∉ [a, c] → H b = some u → upd H' a o b = some u := fun {o} b u n e => by rw [noS n]; exact f4 b u n e
      have upd_c : ∀ {o : HO}, upd H' a o c = some (.lst (cells.map V.int)) := fun {o} => by rw [upd_ne (Ne.symm ac)]; exact f2
      refine ⟨_, rfl, a, _, rfl, g4_left f1, _, _, rfl, rfl, _, rfl, ite2 (fun hlt => ?_) (fun hge2 => ?_)⟩
      · refine ⟨_, rfl, c, _, rfl, .inl (.inl (.inl f2)), _, _, rfl, rfl, _, rfl, ite2 (fun hpos => ?_) (fun hno => ?_)⟩
        · have np : 0 < cells.length := by
            have : (0 : Int) < ((cells.map V.int).length : Int) := of_decide_eq_true hpos
            rw [List.length_map] at this
            omega
          have lt1 : cells.length - 1 < cells.length := by omega
          have last : (cells.map V.int)[(cells.map V.int).length - 1]? = some (.int cells[cells.length - 1]) := by
            rw [List.length_map, List.getElem?_map, List.getElem?_eq_getElem lt1]
            rfl
          refine ⟨fun σ1 H1 => ∃ (cs : List Int) (l : Int), cs.length < cells.length ∧ σ1 = [some (.ref a), some (.int m), some (.ref c), none, none, none] ∧ H1 a = some (.dK (kvs4 c l m0 t0)) ∧
            H1 c = some (.lst (cs.map V.int)) ∧ cs.length ≤ 63 ∧ ∀ b o, b ∉ [a, c] → H b = some o → H1 b = some o, fun σ1 H1 ⟨cs, l, g1, g2, g3, g4, g5, g6⟩ => ⟨_, g1, cs, l, rfl, g2, g3, g4, g5, g6⟩, ?_⟩
          refine ⟨_, rfl, .inl ⟨rfl, _, .inl (.inl f2)⟩, c, _, _, rfl, rfl, f2, last, ?_⟩
          have f1' : ∀ {o : HO}, upd H' c o a = some (.dK (kvs4 c l m0 t0)) := fun {o} => by rw [upd_ne ac]; exact f1
          refine ⟨_, rfl, a, _, rfl, p4_left f1', ?_⟩
          refine ⟨cells.dropLast, _, by rw [List.length_dropLast]; omega, rfl, upd_same, ?_, by rw [List.length_dropLast]; omega, fun b u n e => ?_⟩
          · rw [upd_ne (Ne.symm ac), upd_same, List.map_dropLast]
          · rw [noS n, noC n]
            exact f4 b u n e
        · refine ⟨_, rfl, a, _, rfl, g4_left f1, ?_⟩
          refine ⟨_, rfl, _, _, rfl, rfl, _, rfl, ite2 (fun hgt => ?_) (fun hle => ?_)⟩
          · have l1 : 1 < l := of_decide_eq_true hgt
            refine ⟨_, rfl, _, rfl, _, _, rfl, rfl, wide_div (b := 60) (by omega) hb (by decide) (by decide), _, rfl, a, _, rfl, p4_left f1, ?_⟩
            refine ⟨_, rfl, .inl ⟨_, rfl, _, rfl, _, _, rfl, rfl, (by show 0 < m; omega), ?_⟩⟩
            exact fin _ _ upd_st ⟨cells, _, _, _, upd_same, upd_c, f3⟩ (Int.emod_nonneg _ (by omega)) (.inl (Int.emod_lt_of_pos _ (by omega)))
          · refine ⟨_, rfl, a, _, rfl, g4_turn f1, _, _, rfl, rfl, _, rfl, a, _, rfl, p4_turn f1, ?_⟩
            refine ⟨_, rfl, a, _, rfl, g4_turn upd_same, ?_⟩
            refine ⟨_, rfl, a, _, rfl, g4_mixed upd_same, _, rfl, _, _, rfl, rfl, .inr (by decide), _, _, rfl, rfl, .inl ⟨_, rfl, _, _, rfl, rfl, (by show (0 : Int) < 998244353; decide), ?_⟩⟩
            have b1 := Int.emod_nonneg (m0 + (t0 + 1) * 104729) (show (998244353 : Int) ≠ 0 by decide)
            have b2 := Int.emod_lt_of_pos (m0 + (t0 + 1) * 104729) (show (0 : Int) < 998244353 by decide)
            refine ⟨_, rfl, _, rfl, _, _, rfl, rfl, .inl ⟨by omega, by omega⟩, _, rfl, _, _, rfl, rfl, .inr (by decide), _, _, rfl, rfl, .inl ⟨_, rfl, _, _, rfl, rfl, (by show (0 : Int) < 2147483647; decide), ?_⟩⟩
            refine ⟨_, rfl, _, _, rfl, rfl, ⟨by decide, by decide⟩, .inl ⟨_, rfl, _, rfl, _, _, rfl, rfl, (by show 0 < m; omega), ?_⟩⟩
            exact fin _ _ upd_st ⟨cells, _, _, _, upd_same, upd_c, f3⟩ (Int.emod_nonneg _ (by omega)) (.inl (Int.emod_lt_of_pos _ (by omega)))
      · refine ⟨_, rfl, a, _, rfl, g4_left f1, ?_⟩
        refine ⟨_, rfl, _, _, rfl, rfl, _, rfl, ite2 (fun hgt => ?_) (fun hle => ?_)⟩
        · have l1 : 1 < l := of_decide_eq_true hgt
          refine ⟨_, rfl, _, rfl, _, _, rfl, rfl, wide_div (b := 60) (by omega) hb (by decide) (by decide), _, rfl, a, _, rfl, p4_left f1, ?_⟩
          refine ⟨_, rfl, .inl ⟨_, rfl, _, rfl, _, _, rfl, rfl, (by show 0 < m; omega), ?_⟩⟩
          exact fin _ _ upd_st ⟨cells, _, _, _, upd_same, upd_c, f3⟩ (Int.emod_nonneg _ (by omega)) (.inl (Int.emod_lt_of_pos _ (by omega)))
        · refine ⟨_, rfl, a, _, rfl, g4_turn f1, _, _, rfl, rfl, _, rfl, a, _, rfl, p4_turn f1, ?_⟩
          refine ⟨_, rfl, a, _, rfl, g4_turn upd_same, ?_⟩
          refine ⟨_, rfl, a, _, rfl, g4_mixed upd_same, _, rfl, _, _, rfl, rfl, .inr (by decide), _, _, rfl, rfl, .inl ⟨_, rfl, _, _, rfl, rfl, (by show (0 : Int) < 998244353; decide), ?_⟩⟩
          have b1 := Int.emod_nonneg (m0 + (t0 + 1) * 104729) (show (998244353 : Int) ≠ 0 by decide)
          have b2 := Int.emod_lt_of_pos (m0 + (t0 + 1) * 104729) (show (0 : Int) < 998244353 by decide)
          refine ⟨_, rfl, _, rfl, _, _, rfl, rfl, .inl ⟨by omega, by omega⟩, _, rfl, _, _, rfl, rfl, .inr (by decide), _, _, rfl, rfl, .inl ⟨_, rfl, _, _, rfl, rfl, (by show (0 : Int) < 2147483647; decide), ?_⟩⟩
          refine ⟨_, rfl, _, _, rfl, rfl, ⟨by decide, by decide⟩, .inl ⟨_, rfl, _, rfl, _, _, rfl, rfl, (by show 0 < m; omega), ?_⟩⟩
          exact fin _ _ upd_st ⟨cells, _, _, _, upd_same, upd_c, f3⟩ (Int.emod_nonneg _ (by omega)) (.inl (Int.emod_lt_of_pos _ (by omega)))
  · exact h6.elim
end
section
variable {P : Program} {w : World} {K : PySem.W.Frag} {mg : Str → Option Value} {base : Heap}
theorem ok__law_open_cells (T : Top K mg base) : FnG P w K mg base CX0 1 T.f__law_open_cells T.d__law_open_cells ["_law_script"] (spOpen K) := ok_open T.F__law_open_cells T.b_int T.b_abs
theorem ok__law_pick (T : Top K mg base) : FnG P w K mg base CX0 1 T.f__law_pick T.d__law_pick ["_law_source", "_law_most"] (PSp K 2 fsPick) := ok_pick T.F__law_pick T.b_int T.b_len
end
theorem mo__law_pick : MoF fsPick := moPick
end K02
set_option Elab.async false
set_option linter.all false
set_option maxRecDepth 100000
set_option maxHeartbeats 4000000
namespace K02
open PySem PySem.Spec PyProof.Rows L2 DL
variable [Tb]
local macro_rules | `(tactic| walk_at "rw") => `(tactic| simp only [d01, d0m, dm0, d10, Rw.toD, rdIn, wds, flatD, List.all_cons, List.all_nil, dw, Bool.true_or, Bool.false_or, Bool.or_false, Bool.or_true, Bool.true_and, Bool.and_true, Bool.false_and, Bool.and_false, Bool.not_true, Bool.not_false, decide_true, decide_false, true_and, and_true, if_true, if_false, Bool.false_eq_true, reduceIte, Nat.zero_add, Nat.reduceAdd, ite_self, wJR, wJL, wJM, wRJ, wRL, wRM, wLJ, wLR, wLM, wMJ, wMR, wML])
local macro_rules | `(tactic| walk_at "st") => `(tactic| simp only [wBo, w2, rdEq2, wNameS, wName, wC, wPart, startD, List.map_cons, List.map_nil, List.cons_append, List.nil_append, getS, AV.sv, rd1, List.length_cons, List.length_nil, List.replicate, endE, frzD, List.set, wOr, wAnd, wNot, wTru, wIs, wIf, wAndV, wOrV, wNotV, wIxC, wNeg, dat_va, dat_fr, sv_va, sv_fr, gtName, gtCons, gtNil, gtTup, wFrz, wBack, wIfS, wAugI, wPar3, wIsN, if_true, if_false, Bool.false_eq_true, Bool.not_true, Bool.not_false, decide_true, decide_false, Nat.sub_zero, Nat.succ_sub_succ_eq_sub, ite_true, ite_false, reduceIte, true_and, and_true, Nat.zero_add, Nat.reduceAdd, qisStrD_str, qisStrD_tup, qisStrD_lst, qisStrD_int, qisStrD_bl, qisStrD_non, qisStrD_dct, qisTupD_str, qisTupD_tup, qisTupD_lst, qisTupD_int, qisTupD_bl, qisTupD_non, qisTupD_dct, qisLstD_str, qisLstD_tup, qisLstD_lst, qisLstD_int, qisLstD_bl, qisLstD_non, qisLstD_dct, qisDctD_str, qisDctD_tup, qisDctD_lst, qisDctD_int, qisDctD_bl, qisDctD_non, qisDctD_dct, qisBooD_str, qisBooD_tup, qisBooD_lst, qisBooD_int, qisBooD_bl, qisBooD_non, qisBooD_dct, qisIntD_str, qisIntD_tup, qisIntD_lst, qisIntD_int, qisIntD_bl, qisIntD_non, qisIntD_dct, qAddI, qAddS, qAddT, qAddL, qInt, qSlT, qSlL, qSlS, qEqI, qEqS, qEqB, qEqN, qEqT, qEqL, qIxT0, qIxT1, qIxT2, qIxL0, qIxL1, qLenT, qLenL, qLenS, qTupT, qTupL, qLstT, qLstL, qIt, qItL, qIntI, qBl, qTrT, qTrL, qTrI, qTrN, qNoN, qNoT, qNoL, qNoI, qNoS])
local macro_rules | `(tactic| walk_at "run") => `(tactic| ((try walk_at "rw"); (try walk_at "st"); (try walk_at "rw")))
local macro_rules | `(tactic| walk_at "dl") => `(tactic| simp only [wBo, w2, rdEq2, dEq, wNameS, wName, wC, startD, List.map_cons, List.map_nil, List.cons_append, List.nil_append, getS, AV.sv, rd1, List.length_cons, List.length_nil, List.replicate, endE, frzD, wBack, List.set, wOr, wAnd, wNot, wTru, wIs, wIf, wAndV, wOrV, wNotV, wIxC, ixC, nthD, dLen, dTuple, dList, dat_va, dat_fr, sv_va, sv_fr, gtName, gtCons, gtNil, gtTup, truD, wFrz, wIfS, if_true, if_false, Bool.false_eq_true, isStrD, isTupD, isLstD, isBooD, isIntD, isDctD, Bool.not_true, Bool.not_false, decide_true, decide_false, Nat.sub_zero, Nat.succ_sub_succ_eq_sub, ite_true, ite_false, reduceIte, true_and, and_true])
section
variable {P : Program} {w : World} {K : PySem.W.Frag} {mg : Str → Option Value} {base : Heap}
theorem ok_inner_first (T : Top K mg base) {fp : Addr} {dp : FuncData} {pp : List Str} {n : Nat} {ok : Rose → Prop} (her : Her ok) (G_parts_of : FnG P w K mg base CX0 n fp dp pp (PSp K 1 (fsNode ok))) (K_parts_of : PySem.W.keepIn K (.ref fp) = true) (B_parts_of : Binds K dp pp []) : FnG P w K mg base CX0 (n+1) T.f_inner_first T.d_inner_first ["whole", "parts_of"] (PSp K 2 (fs_inner_first fp ok)) := by
  refine fn_data T.F_inner_first sc_inner_first (fun cdv A outer s H E hr => (evb_cons (evs_par 2 3 (ev_lst evl_nil) (ev_lst (evl_cons (ev_name 0) evl_nil)) rfl sc_inner_first.nd)
    (evb_cons (evs_while (evt_tru (ev_nameS 3)) (evb_cons (evs_setM 4 (evm_pop 3) sc_inner_first.nd)
     (evb_cons (evs_append 2 (ev_name 4).rv)
     (evb_one (evs_extend 3 (evr_callL 1 G_parts_of moNode (hr.mono (by omega)) K_parts_of B_parts_of (eva_cons (ev_name 4) eva_nil)).cl)))))
    (evb_frz 3 (evb_frz 2 (evb_one (evs_ret (evr_back (ev_nameS 2))))))))) (fun as Q hn hq => ?_)
  obtain ⟨t, ht, hm, rfl, q⟩ := hq
  refine ⟨Nat.zero_le _, z1, fun m sd => ∃ (wt fd : List Rose) (y : SV), sd = [.va t.d, .fn fp, .ow (fd.map Rose.d), .ow (wt.map Rose.d), y] ∧ (∀ c ∈ wt, ok c) ∧ Rose.manyL wt = m ∧ fd.length + m ≤ 1000000 ∧ Rose.innerL wt ++ fd.reverse = t.inner,
    ⟨_, [t], [], .un, rfl, fun c m => by rw [List.mem_singleton.mp m]; exact ht, rfl, by simp only [Rose.manyL, List.length_nil]; omega, by simp only [Rose.innerL, List.append_nil, List.reverse_nil]⟩, ?_⟩
  rintro m sd ⟨wt, fd, y, rfl, h1, h2, h3, h4⟩
  rcases nil_or_snoc wt with rfl | ⟨init, c, rfl⟩
  · show Q (.fr (fd.map Rose.d).reverse)
    rw [← h4] at q
    simp only [Rose.innerL, List.nil_append, List.map_reverse] at q
    exact q
  · have hc := h1 c (List.mem_append_right _ (List.mem_singleton.mpr rfl))
    have hs := many_step c init
    have hl := Rose.len_le (init ++ c.cs)
    rw [List.length_append] at hl
    have lm : (List.map Rose.d (init ++ [c])).isEmpty = false := by simp
    simp only [wTru, wNameS, truD, getS, lm, Bool.not_false, if_true]
    show onOw 3 _ _
    rw [onOw_ow rfl, List.map_append, List.map_cons, List.map_nil, List.getLast?_concat]
    simp only [List.dropLast_concat, List.set, sv_va, getS]
    refine ⟨by rw [List.length_map, sizeLine_eq]; omega, ?_⟩
    refine ⟨rfl, rfl, c, hc, rfl, fun d hd z hz => ?_⟩
    have fin : (init.map Rose.d).length + (c.cs.map Rose.d).length ≤ sizeLine ∧ ∃ m', m' < m ∧ ∃ (wt fd' : List Rose) (y : SV), [SV.va t.d, SV.fn fp, SV.ow (fd.map Rose.d ++ [c.d]), SV.ow (init.map Rose.d ++ c.cs.map Rose.d), SV.va c.d] = [SV.va t.d, SV.fn fp, SV.ow (fd'.map Rose.d), SV.ow (List.map Rose.d wt), y] ∧ (∀ c ∈ wt, ok c) ∧ Rose.manyL wt = m' ∧ fd'.length + m' ≤ 1000000 ∧ Rose.innerL wt ++ fd'.reverse = t.inner := by
      refine ⟨by rw [List.length_map, List.length_map, sizeLine_eq]; omega, Rose.manyL (init ++ c.cs), by omega, init ++ c.cs, fd ++ [c], _, by rw [List.map_append, List.map_append]; rfl, fun e me => ?_, rfl, by rw [List.length_append, List.length_singleton]; omega, ?_⟩
      · rcases List.mem_append.mp me with me | me
        · exact h1 e (List.mem_append_left _ me)
        · exact her c hc e me
      · rw [← h4, inner_step, List.reverse_append, List.append_assoc]; rfl
    cases z with
    | va d2 =>
      have hz : d2 = d := hz
      subst hz
      rcases hd with rfl | rfl
      · exact fin
      · exact fin
    | fr ds =>
      have hz : PyData.list ds = d := hz
      rcases hd with rfl | rfl
      · cases hz; exact fin
      · cases hz
    | fd es =>
      have hz : PyData.dict es = d := hz
      rcases hd with rfl | rfl <;> cases hz
end
def fs_parts_of : FSp := fsNode okRow
section
variable {P : Program} {w : World} {K : PySem.W.Frag} {mg : Str → Option Value} {base : Heap}
theorem ok_parts_of (T : Top K mg base) : FnG P w K mg base CX0 (1) T.f_parts_of T.d_parts_of ["row"] (PSp K 1 (fs_parts_of)) := by
  refine fn_data T.F_parts_of sc_parts_of (fun cdv A outer s H E hr => (evb_cons (evs_ifS (evt_tru (evr_is "str" "str" kit_str (ev_nameS 0).bo T.b_isinstance T.b_str boot_isinstance (by decide +kernel)).cl) (evb_one (evs_ret (ev_tup evl_nil))) evb_nil)
    (evb_cons (evs_asg (evm_frz 0) (evg_tup (n := 2) rfl (evgs_cons (evg_name 1 sc_parts_of.nd) (evgs_cons (evg_name 2 sc_parts_of.nd) evgs_nil))))
    (evb_one (evs_ret (evr_if (evt_cmp (od_in hr.rm.units) (ev_nameS 1) (ev_tup (evl_cons ev_str (evl_cons ev_str evl_nil))).cl (by with_unfolding_all rfl)) (ev_tup (evl_cons (ev_name 2) evl_nil)) (ev_name 2).rv)))))) (fun as Q hn hq => ?_)
  obtain ⟨t, ⟨r, rfl, hw⟩, rfl, q⟩ := hq
  rw [r.rose_d]
  rw [r.rose_cs, Rw.rose_map] at q
  have q1 := q _ (.inr rfl)
  cases r with
  | «let» c =>
    walk_at "dl"
    exact ⟨Nat.zero_le _, q1 _ rfl⟩
  | right r =>
    walk_at "rw"
    walk_at "dl"
    walk_at "rw"
    exact ⟨by decide, by decide, q1 _ rfl⟩
  | left r =>
    walk_at "rw"
    walk_at "dl"
    walk_at "rw"
    exact ⟨by decide, by decide, q1 _ rfl⟩
  | join rs =>
    walk_at "rw"
    walk_at "dl"
    walk_at "rw"
    exact ⟨by decide, q1 _ (by simp only [Rw.toDs_eq, Rw.parts])⟩
  | mix rs =>
    walk_at "rw"
    walk_at "dl"
    walk_at "rw"
    exact ⟨by decide, q1 _ (by simp only [Rw.toDs_eq, Rw.parts])⟩
end
end K02
set_option Elab.async false
set_option linter.all false
set_option maxRecDepth 100000
set_option maxHeartbeats 400000
namespace K02
open PySem PySem.Spec PyProof.Rows L2 DL
variable [Tb]
/-- each_told over a tree: what tell tells of each, the inner ones first -/
def fs_each_told (fp ft : Addr) (ok : Rose → Prop) (val : Rose → PyData) : FSp := fun as Q => ∃ t : Rose, ok t ∧ t.many ≤ 1000000 ∧ as = [.va t.d, .fn fp, .fn ft] ∧ Q (.fr (t.inner.map val))
theorem mo_each_told {fp ft : Addr} {ok : Rose → Prop} {val : Rose → PyData} : MoF (fs_each_told fp ft ok val) := fun as Q Q' k ⟨t, h1, h2, h3, h4⟩ => ⟨t, h1, h2, h3, k _ h4⟩
/-- what tell is to tell -/
def TellOk (ok : Rose → Prop) (val : Rose → PyData) (fsT : FSp) : Prop := ∀ t, ok t → t.many ≤ 1000000 → ∀ Q : RV → Prop, (∀ z : RV, z.dat = val t → Q z) → fsT [.va t.d, .va (.list (t.cs.map val))] Q
def etS (w : PyData) (fp ft : Addr) (md wt : List PyData) (y z : SV) : SD := [.va w, .fn fp, .fn ft, .ow md, .ow wt, y, z]
mutual
theorem et_tree {g : WG} {wb : WS} {E : ED} {w : PyData} {fp ft : Addr} {ok : Rose → Prop} {val : Rose → PyData} (her : Her ok)
    (step : ∀ (t : Rose) (md wt : List PyData) (y z : SV) (E : ED) (P : SD → Prop), ok t → t.many ≤ 1000000 → md.length ≤ 2000000 → wt.length ≤ 2000000 → (∀ y z, P (etS w fp ft (md ++ [val t]) (wt ++ [val t]) y z)) → g t.d (etS w fp ft md (wt ++ t.cs.map val) y z) fun sd => wb (loopE E P) sd) :
    ∀ (t : Rose) (rest : List PyData) (md wt : List PyData) (y z : SV), ok t → md.length + t.many ≤ 1000000 → wt.length + t.many ≤ 1000000 → (∀ y z, forW g wb E rest (etS w fp ft (md ++ t.inner.map val) (wt ++ [val t]) y z)) → forW g wb E (t.inner.map Rose.d ++ rest) (etS w fp ft md wt y z)
  | .node d cs, rest, md, wt, y, z, h, l1, l2, k => by
    have em : (Rose.node d cs).many = 1 + Rose.manyL cs := by simp only [Rose.many]
    have ei : (Rose.node d cs).inner = Rose.innerL cs ++ [.node d cs] := by simp only [Rose.inner]
    rw [ei] at k ⊢
    rw [List.map_append, List.append_assoc]
    refine et_list her step cs _ md wt y z (fun c m => her _ h c m) (by omega) (by omega) fun y z => ?_
    show g d _ fun sd1 => wb (loopE E (forW g wb E rest)) sd1
    have ll := Rose.len_le cs
    have := step (.node d cs) (md ++ (Rose.innerL cs).map val) wt y z E (forW g wb E rest) h (by omega) (by rw [List.length_append, List.length_map, Rose.innerL_len]; omega) (by omega) (fun y z => by
      have := k y z
      rw [List.map_append, ← List.append_assoc] at this
      exact this)
    exact this
theorem et_list {g : WG} {wb : WS} {E : ED} {w : PyData} {fp ft : Addr} {ok : Rose → Prop} {val : Rose → PyData} (her : Her ok)
    (step : ∀ (t : Rose) (md wt : List PyData) (y z : SV) (E : ED) (P : SD → Prop), ok t → t.many ≤ 1000000 → md.length ≤ 2000000 → wt.length ≤ 2000000 → (∀ y z, P (etS w fp ft (md ++ [val t]) (wt ++ [val t]) y z)) → g t.d (etS w fp ft md (wt ++ t.cs.map val) y z) fun sd => wb (loopE E P) sd) :
    ∀ (ts : List Rose) (rest : List PyData) (md wt : List PyData) (y z : SV), (∀ t ∈ ts, ok t) → md.length + Rose.manyL ts ≤ 1000000 → wt.length + Rose.manyL ts ≤ 1000000 → (∀ y z, forW g wb E rest (etS w fp ft (md ++ (Rose.innerL ts).map val) (wt ++ ts.map val) y z)) → forW g wb E ((Rose.innerL ts).map Rose.d ++ rest) (etS w fp ft md wt y z)
  | [], rest, md, wt, y, z, h, l1, l2, k => by
    have := k y z
    simp only [Rose.innerL, List.map_nil, List.append_nil] at this
    simp only [Rose.innerL, List.map_nil, List.nil_append]
    exact this
  | t :: ts, rest, md, wt, y, z, h, l1, l2, k => by
    have em : Rose.manyL (t :: ts) = t.many + Rose.manyL ts := by simp only [Rose.manyL]
    have ei : Rose.innerL (t :: ts) = t.inner ++ Rose.innerL ts := by simp only [Rose.innerL]
    have tp : 1 ≤ t.many := by rw [t.many_eq]; omega
    rw [ei] at k ⊢
    rw [List.map_append, List.append_assoc]
    refine et_tree her step t _ md wt y z (h t List.mem_cons_self) (by omega) (by omega) fun y z => ?_
    refine et_list her step ts rest _ _ y z (fun c m => h c (List.mem_cons_of_mem _ m)) (by rw [List.length_append, List.length_map, Rose.inner_len]; omega) (by rw [List.length_append]; show wt.length + 1 + _ ≤ _; omega) fun y z => ?_
    have := k y z
    rw [List.map_append, List.map_cons] at this
    rw [List.append_assoc, List.append_assoc]
    exact this
end
theorem et_at {g : WG} {wb : WS} {E : ED} {ds ds' : List PyData} {sd : SD} (e : ds = ds') (h : forW g wb E ds' sd) : forW g wb E ds sd := by subst e; exact h
theorem et_go {i : Nat} {d : PyData} {sd : SD} {Q : SD → Prop} (h : Q (sd.set i (.va d))) : gtName i d sd Q := h
theorem w2_ow {rd : RD2} {wb : WD} {sd : SD} {Q : RV → Prop} {i : Nat} {ds : List PyData} (g : getS sd i = .ow ds) (h : wb sd fun e => rd (.int (ds.length : Int)) e Q) : w2 rd (fun sd Q => wNameS i sd fun d => rd1 dLen [d] fun r => Q r.dat) wb sd Q := by
  unfold w2 wNameS
  dsimp only
  rw [g]
  exact h
theorem et_app {i : Nat} {we : WR} {E : ED} {sd : SD} {ds : List PyData} {v : PyData} (g : getS sd i = .ow ds) (hl : ds.length < sizeLine) (hw : ∀ Q : RV → Prop, (∀ z : RV, z.dat = v → Q z) → we sd Q) (q : E.nx (sd.set i (.ow (ds ++ [v])))) : wAppend i we E sd := by
  unfold wAppend
  rw [onOw_ow g]
  exact hw _ fun z hz => ⟨hl, by rw [hz]; exact q⟩
theorem et_name {i : Nat} {sd : SD} {d : PyData} {K : PyData → Prop} (g : getS sd i = .va d) (h : K d) : wName i sd K := by unfold wName; rw [g]; exact h
theorem et_cut {i j : Nat} {sd : SD} {ds es : List PyData} {K : RV → Prop} (g : getS sd i = .ow (ds ++ es)) (g2 : getS sd j = .va (.int (ds.length : Int))) (h : K (.fr es)) : wNameS i sd fun d => wPart (wNameS j) sd fun l => rdSl d l none K := by
  unfold wNameS wPart
  rw [g]
  show wNameS j sd _
  unfold wNameS
  rw [g2]
  show K (.fr (DL.cutD (ds ++ es) (some (ds.length : Int)) none))
  rw [DL.cut_post]
  exact h
theorem et_lastL {xs : List PyData} {v : PyData} {Q : RV → Prop} (q : Q (.va v)) : rdIx (.list (xs ++ [v])) (.int (-1)) Q := by
  have e : L2.atI (xs ++ [v]) (-1) = some v := by
    unfold L2.atI L2.ixN
    rw [if_neg (by omega), if_pos (by rw [List.length_append, List.length_singleton]; omega)]
    rw [List.length_append, List.length_singleton]
    show (xs ++ [v])[((-1 : Int) + ((xs.length + 1 : Nat) : Int)).toNat]? = some v
    rw [show ((-1 : Int) + ((xs.length + 1 : Nat) : Int)).toNat = xs.length by omega]
    simp
  simp only [rdIx, e]; exact q
theorem et_last {i : Nat} {sd : SD} {ds : List PyData} {v : PyData} {K : RV → Prop} (g : getS sd i = .ow (ds ++ [v])) (h : K (.va v)) : w2 rdIx (wNameS i) (fun sd Q => wNeg (wC (.int 1)) sd fun r => Q r.dat) sd K := by
  unfold w2 wNameS
  rw [g]
  show rdIx (.list (ds ++ [v])) (.int (-1)) K
  exact et_lastL h
section
variable {P : Program} {w : World} {K : PySem.W.Frag} {mg : Str → Option Value} {base : Heap}
theorem ok_each_told (T : Top K mg base) {fp : Addr} {dp : FuncData} {pp : List Str} {n : Nat} {ok : Rose → Prop} (her : Her ok) (G_parts_of : FnG P w K mg base CX0 n fp dp pp (PSp K 1 (fsNode ok))) (K_parts_of : PySem.W.keepIn K (.ref fp) = true) (B_parts_of : Binds K dp pp []) {ft : Addr} {dt : FuncData} {pt : List Str} {m : Nat} {fsT : FSp} {val : Rose → PyData} (moT : MoF fsT) (hT : TellOk ok val fsT) (G_tell : FnG P w K mg base CX0 m ft dt pt (PSp K 2 fsT)) (K_tell : PySem.W.keepIn K (.ref ft) = true) (B_tell : Binds K dt pt []) : FnG P w K mg base CX0 (n+m+3) T.f_each_told T.d_each_told ["whole", "parts_of", "tell"] (PSp K 3 (fs_each_told fp ft ok val)) := by
  refine fn_data T.F_each_told sc_each_told (fun cdv A outer s H E hr => (evb_cons (evs_par 3 4 (ev_lst evl_nil) (ev_lst evl_nil) rfl sc_each_told.nd)
    (evb_cons (evs_for (evr_call (ok_inner_first T her G_parts_of K_parts_of B_parts_of) mo_inner_first (hr.mono (by omega)) T.C_inner_first.hm T.C_inner_first.hk T.C_inner_first.hb (eva_cons (ev_name 0) (eva_lfn 1 fp eva_nil))).m (evg_name 5 sc_each_told.nd) (evb_cons (evs_set 6 (evr_op od_sub (evr_blt cd_len T.b_len (by decide +kernel) (evl_cons (ev_nameS 4) evl_nil)).cl (evr_blt cd_len T.b_len (by decide +kernel) (evl_cons (evr_callL 1 G_parts_of moNode (hr.mono (by omega)) K_parts_of B_parts_of (eva_cons (ev_name 5) eva_nil)).cl evl_nil)).cl) sc_each_told.nd)
     (evb_cons (evs_append 3 (evr_callL 2 G_tell moT (hr.mono (by omega)) K_tell B_tell (eva_cons (ev_name 5) (eva_cons (evr_slice (ev_nameS 4) (evo_some (ev_nameS 6)) evo_none).cl eva_nil))))
     (evb_one (evs_cutput 4 (ev_nameS 6) (ev_lst (evl_cons (evr_ix (id_ix hr.rm.units) (ev_nameS 3) (evr_neg ev_int).cl).cl evl_nil)))))) rfl)
    (evb_frz 4 (evb_one (evs_retO 3)))))) (fun as Q hn hq => ?_)
  obtain ⟨t, ht, hm, rfl, q⟩ := hq
  refine ⟨Nat.zero_le _, Nat.zero_le _, rfl, rfl, t, ht, hm, rfl, ?_⟩
  refine et_at (ds' := t.inner.map Rose.d ++ []) (by rw [List.append_nil]) ?_
  refine et_tree (val := val) her (fun t md wt y z E P ht hm l1 l2 hk => ?_) t [] [] [] .un .un ht (by rw [List.length_nil]; omega) (by rw [List.length_nil]; omega) (fun y z => ?_)
  · refine et_go ?_
    have lc : t.cs.length ≤ 1000000 := by
      have := Rose.len_le t.cs
      have := t.many_eq
      omega
    refine w2_ow (ds := wt ++ t.cs.map val) rfl ?_
    refine ⟨rfl, rfl, t, ht, rfl, fun d hd zz hz => ?_⟩
    have el : rd1 dLen [zz.dat] = rd1 dLen [.list (t.cs.map Rose.d)] := by
      rw [hz]
      rcases hd with rfl | rfl <;> rfl
    show rd1 dLen [zz.dat] _
    rw [el]
    refine ⟨trivial, ?_⟩
    have ee : ((((wt ++ t.cs.map val).length : Nat) : Int) - (((t.cs.map Rose.d).length : Nat) : Int)) = (wt.length : Int) := by
      rw [List.length_append, List.length_map, List.length_map]; omega
    dsimp only
    rw [ee]
    refine et_app (ds := md) rfl (by rw [sizeLine_eq]; omega) (fun Q hQ => ?_) (v := val t) ?_
    · refine ⟨rfl, ?_⟩
      refine et_name rfl ?_
      refine et_cut (ds := wt) (es := t.cs.map val) rfl rfl ?_
      exact ⟨rfl, hT t ht hm _ hQ⟩
    · dsimp only
      unfold wCutPut
      refine et_last (ds := md) (v := val t) rfl ?_
      refine ⟨by rw [sizeLine_eq]; show 1 ≤ _; decide, ?_⟩
      have el2 : (wt ++ t.cs.map val).length = wt.length + t.cs.length := by rw [List.length_append, List.length_map]
      refine ⟨⟨by omega, by rw [el2]; omega, by rw [el2, sizeLine_eq]; show _ + 1 ≤ _; omega⟩, ?_⟩
      have := hk (.va t.d) (.va (.int (wt.length : Int)))
      rw [Int.toNat_natCast, List.take_left]
      exact this
  · show Q (.fr ([] ++ t.inner.map val))
    rw [List.nil_append]
    exact q
end
end K02
set_option Elab.async false
set_option linter.all false
set_option maxRecDepth 100000
set_option maxHeartbeats 400000
namespace K02
open PySem PySem.Spec PyProof.Rows L2 DL
variable [Tb]
def fs_size_of : FSp := fun as Q => ∃ r : Rw, r.wf = true ∧ r.nodes ≤ 1000000 ∧ as = [.va r.toD] ∧ Q (.va (.int r.nodes))
theorem mo_size_of : MoF fs_size_of := fun as Q Q' k ⟨r, h1, h2, h3, h4⟩ => ⟨r, h1, h2, h3, k _ h4⟩
section
variable {P : Program} {w : World} {K : PySem.W.Frag} {mg : Str → Option Value} {base : Heap}
theorem ok_size_of (T : Top K mg base) : FnG P w K mg base CX0 (4) T.f_size_of T.d_size_of ["row"] (PSp K 1 (fs_size_of)) := by
  refine fn_data T.F_size_of sc_size_of (fun cdv A outer s H E hr => (evb_one (evs_ret (evr_blt cd_len T.b_len (by decide +kernel) (evl_cons (evr_call (ok_inner_first T her_row (ok_parts_of T) T.C_parts_of.hk T.C_parts_of.hb) mo_inner_first (hr.mono (by omega)) T.C_inner_first.hm T.C_inner_first.hk T.C_inner_first.hb (eva_cons (ev_name 0) (eva_fn T.C_parts_of.hm eva_nil))).cl evl_nil))))) (fun as Q hn hq => ?_)
  obtain ⟨r, h1, h2, rfl, q⟩ := hq
  refine ⟨rfl, r.rose, ⟨r, rfl, h1⟩, by rw [r.rose_many]; exact h2, by rw [r.rose_d], ?_⟩
  show Q _
  rw [List.length_map, Rose.inner_len, r.rose_many]
  exact q
end
end K02
set_option Elab.async false
set_option linter.all false
set_option maxRecDepth 100000
set_option maxHeartbeats 400000
namespace K02
open PySem PySem.Spec PyProof.Rows L2 DL
variable [Tb]
local macro_rules | `(tactic| walk_at "rw") => `(tactic| simp only [d01, d0m, dm0, d10, Rw.toD, rdIn, wds, flatD, List.all_cons, List.all_nil, dw, Bool.true_or, Bool.false_or, Bool.or_false, Bool.or_true, Bool.true_and, Bool.and_true, Bool.false_and, Bool.and_false, Bool.not_true, Bool.not_false, decide_true, decide_false, true_and, and_true, if_true, if_false, Bool.false_eq_true, reduceIte, Nat.zero_add, Nat.reduceAdd, ite_self, wJR, wJL, wJM, wRJ, wRL, wRM, wLJ, wLR, wLM, wMJ, wMR, wML])
local macro_rules | `(tactic| walk_at "st") => `(tactic| simp only [wBo, w2, rdEq2, wNameS, wName, wC, wPart, startD, List.map_cons, List.map_nil, List.cons_append, List.nil_append, getS, AV.sv, rd1, List.length_cons, List.length_nil, List.replicate, endE, frzD, List.set, wOr, wAnd, wNot, wTru, wIs, wIf, wAndV, wOrV, wNotV, wIxC, wNeg, dat_va, dat_fr, sv_va, sv_fr, gtName, gtCons, gtNil, gtTup, wFrz, wBack, wIfS, wAugI, wPar3, wIsN, if_true, if_false, Bool.false_eq_true, Bool.not_true, Bool.not_false, decide_true, decide_false, Nat.sub_zero, Nat.succ_sub_succ_eq_sub, ite_true, ite_false, reduceIte, true_and, and_true, Nat.zero_add, Nat.reduceAdd, qisStrD_str, qisStrD_tup, qisStrD_lst, qisStrD_int, qisStrD_bl, qisStrD_non, qisStrD_dct, qisTupD_str, qisTupD_tup, qisTupD_lst, qisTupD_int, qisTupD_bl, qisTupD_non, qisTupD_dct, qisLstD_str, qisLstD_tup, qisLstD_lst, qisLstD_int, qisLstD_bl, qisLstD_non, qisLstD_dct, qisDctD_str, qisDctD_tup, qisDctD_lst, qisDctD_int, qisDctD_bl, qisDctD_non, qisDctD_dct, qisBooD_str, qisBooD_tup, qisBooD_lst, qisBooD_int, qisBooD_bl, qisBooD_non, qisBooD_dct, qisIntD_str, qisIntD_tup, qisIntD_lst, qisIntD_int, qisIntD_bl, qisIntD_non, qisIntD_dct, qAddI, qAddS, qAddT, qAddL, qInt, qSlT, qSlL, qSlS, qEqI, qEqS, qEqB, qEqN, qEqT, qEqL, qIxT0, qIxT1, qIxT2, qIxL0, qIxL1, qLenT, qLenL, qLenS, qTupT, qTupL, qLstT, qLstL, qIt, qItL, qIntI, qBl, qTrT, qTrL, qTrI, qTrN, qNoN, qNoT, qNoL, qNoI, qNoS])
local macro_rules | `(tactic| walk_at "run") => `(tactic| ((try walk_at "rw"); (try walk_at "st"); (try walk_at "rw")))
local macro_rules | `(tactic| walk_at "dl") => `(tactic| simp only [wBo, w2, rdEq2, dEq, wNameS, wName, wC, startD, List.map_cons, List.map_nil, List.cons_append, List.nil_append, getS, AV.sv, rd1, List.length_cons, List.length_nil, List.replicate, endE, frzD, wBack, List.set, wOr, wAnd, wNot, wTru, wIs, wIf, wAndV, wOrV, wNotV, wIxC, ixC, nthD, dLen, dTuple, dList, dat_va, dat_fr, sv_va, sv_fr, gtName, gtCons, gtNil, gtTup, truD, wFrz, wIfS, if_true, if_false, Bool.false_eq_true, isStrD, isTupD, isLstD, isBooD, isIntD, isDctD, Bool.not_true, Bool.not_false, decide_true, decide_false, Nat.sub_zero, Nat.succ_sub_succ_eq_sub, ite_true, ite_false, reduceIte, true_and, and_true])
/-- letters as one text -/
def letS (ls : List (Fin 26)) : Str := ⟨(ls.map fun c => 97 + c.val).toArray⟩
/-- a row of at most k steps is drawn, k below n and below 6 -/
def fs__law_draw_row (n : Nat) : FSp := fun as Q => ∃ (ls : List (Fin 26)) (k : Nat), as = [.so, .va (.str (letS ls)), .va (.int k)] ∧ 0 < ls.length ∧ ls.length ≤ 26 ∧ k < n ∧ k < 6 ∧
  ∀ r : Rw, r.dep ≤ k → r.nodes ≤ 4 ^ k → r.wf = true → Q (.va r.toD)
theorem mo__law_draw_row (n : Nat) : MoF (fs__law_draw_row n) := fun as Q Q' k ⟨ls, m, h1, h2, h3, h4, h5, h6⟩ => ⟨ls, m, h1, h2, h3, h4, h5, fun r a b c => k _ (h6 r a b c)⟩
theorem no__law_draw_row (as : List AV) (Q : RV → Prop) (h : fs__law_draw_row 0 as Q) : False := by
  obtain ⟨_, _, _, _, _, z, _⟩ := h
  exact Nat.not_lt_zero _ z
theorem al_rows {a b : Nat} : ∀ {ds out : List PyData}, Al (fun _ e => ∃ r : Rw, e = r.toD ∧ r.dep ≤ a ∧ r.nodes ≤ b ∧ r.wf = true) ds out → ∃ rs : List Rw, out = rs.map Rw.toD ∧ rs.length = ds.length ∧ Rw.depL rs ≤ a ∧ Rw.nodesL rs ≤ rs.length * b ∧ Rw.wfL rs = true
  | _, _, .nil => ⟨[], rfl, rfl, Nat.zero_le _, by simp only [Rw.nodesL]; omega, rfl⟩
  | _, _, .cons ⟨r, e, h1, h2, hw⟩ t => by
    obtain ⟨rs, e2, h3, h4, h5, h6⟩ := al_rows t
    refine ⟨r :: rs, by rw [e, e2]; rfl, by simp only [List.length_cons, h3], by simp only [Rw.depL]; omega, ?_, by simp only [Rw.wfL, hw, h6, Bool.and_self]⟩
    simp only [Rw.nodesL, List.length_cons, Nat.succ_mul, Nat.add_mul, Nat.one_mul]
    omega
theorem pk {m : Int} {Q2 : RV → Prop} (h1 : m < 2 ^ 20) (h2 : ∀ r : Int, 0 ≤ r → (r < m ∨ r = 0) → Q2 (.va (.int r))) : fsPick [.so, .va (.int m)] Q2 := ⟨by
  have : (2 : Int) ^ 20 = 1048576 := by decide
  omega, h2⟩
section
variable {P : Program} {w : World} {K : PySem.W.Frag} {mg : Str → Option Value} {base : Heap}
theorem ok__law_draw_row (T : Top K mg base) : ∀ n : Nat, FnG P w K mg base CX0 (n + 1) T.f__law_draw_row T.d__law_draw_row ["_law_source", "_law_letters_here", "_law_most"] (PSp K 3 (fs__law_draw_row n))
  | 0 => (FnG.no.mono (Nat.zero_le _)).imp fun vs H Q E ⟨S, Oc, as, h1, h2, h3, h4, h5, h6⟩ => (no__law_draw_row as _ h6).elim
  | n + 1 => by
    have G := ok__law_draw_row T n
    refine FnG.mono (j := (n + 1) + 1) (fn_data T.F__law_draw_row sc__law_draw_row (fun cdv A outer s H E hr => (evb_cons (evs_set 3 (evr_if (evt_cmp od_gt (ev_nameS 2) ev_int) (evr_call (ok__law_pick T) mo__law_pick (hr.mono (by omega)) T.C__law_pick.hm T.C__law_pick.hk T.C__law_pick.hb (eva_so 0 (eva_cons ev_int eva_nil))) (ev_int).rv) sc__law_draw_row.nd)
    (evb_cons (evs_ifS (evt_cmp od_lt (ev_nameS 3) ev_int) (evb_one (evs_ret (evr_ix (id_ix hr.rm.units) (ev_nameS 1) (evr_call (ok__law_pick T) mo__law_pick (hr.mono (by omega)) T.C__law_pick.hm T.C__law_pick.hk T.C__law_pick.hb (eva_so 0 (eva_cons (evr_blt cd_len T.b_len (by decide +kernel) (evl_cons (ev_nameS 1) evl_nil)).cl eva_nil))).cl))) evb_nil)
    (evb_cons (evs_ifS (evt_cmp (od_eq2 hr.rm.units) (ev_nameS 3).bo ev_int) (evb_one (evs_ret (ev_tup (evl_cons ev_str (evl_cons (evr_call G (mo__law_draw_row n) (hr.mono (by omega)) T.C__law_draw_row.hm T.C__law_draw_row.hk T.C__law_draw_row.hb (eva_so 0 (eva_cons (ev_name 1) (eva_cons (evr_op od_sub (ev_nameS 2) ev_int).cl eva_nil)))).cl evl_nil))))) evb_nil)
    (evb_cons (evs_ifS (evt_cmp (od_eq2 hr.rm.units) (ev_nameS 3).bo ev_int) (evb_one (evs_ret (ev_tup (evl_cons ev_str (evl_cons (evr_call G (mo__law_draw_row n) (hr.mono (by omega)) T.C__law_draw_row.hm T.C__law_draw_row.hk T.C__law_draw_row.hb (eva_so 0 (eva_cons (ev_name 1) (eva_cons (evr_op od_sub (ev_nameS 2) ev_int).cl eva_nil)))).cl evl_nil))))) evb_nil)
    (evb_cons (evs_set 4 (evr_if (evt_cmp (od_eq2 hr.rm.units) (ev_nameS 3).bo ev_int) (evr_ix (id_ix hr.rm.units) (ev_lst (evl_cons ev_int (evl_cons ev_int (evl_cons ev_int evl_nil)))).cl (evr_call (ok__law_pick T) mo__law_pick (hr.mono (by omega)) T.C__law_pick.hm T.C__law_pick.hk T.C__law_pick.hb (eva_so 0 (eva_cons ev_int eva_nil))).cl) (evr_op od_add ev_int (evr_call (ok__law_pick T) mo__law_pick (hr.mono (by omega)) T.C__law_pick.hm T.C__law_pick.hk T.C__law_pick.hb (eva_so 0 (eva_cons ev_int eva_nil))).cl)) sc__law_draw_row.nd)
    (evb_one (evs_ret (ev_tup (evl_cons (evr_ix (id_ix hr.rm.units) (ev_lst (evl_cons ev_str (evl_cons ev_str evl_nil))).cl (evr_op od_sub (ev_nameS 3) ev_int).cl).cl (evl_cons (evr_typ cd_tuple T.b_tuple (by decide +kernel) (evl_cons ((evc_lcR (own := [("_law_k", 5)]) (ev_nameS 4) (blkOk_by (N := ["_law_source", "_law_letters_here", "_law_most", "_law_road", "_law_many", "_law_k"]) (sc := defScope s__law_draw_row) (by decide +kernel)) T.b_range (fun _ _ _ _ _ => (evg_name 5 sc__law_draw_row.nd)) (fun _ _ _ _ _ => evi_nil) (fun _ _ _ _ _ => (evr_call G (mo__law_draw_row n) (hr.mono (by omega)) T.C__law_draw_row.hm T.C__law_draw_row.hk T.C__law_draw_row.hb (eva_so 0 (eva_cons (ev_name 1) (eva_cons (evr_op od_sub (ev_nameS 2) ev_int).cl eva_nil)))))).rv rfl sc__law_draw_row.nd).cl evl_nil)).cl evl_nil))))))))))) (fun as Q hn hq => ?_)) (by omega)
    obtain ⟨ls, k, rfl, hl0, hl, hk, hk6, q⟩ := hq
    have kI : (0 : Int) ≤ k := Int.natCast_nonneg k
    show wIf _ _ _ _ _
    refine bind_of (fun z => ∃ i : Int, z = .va (.int i) ∧ 0 ≤ i ∧ i < 6 ∧ (2 ≤ i → 0 < k)) (fun Q1 q1 => ?_) ?_
    · refine ⟨trivial, ite3 (fun h => ?_) (fun h => ?_)⟩
      · have hk0 : (0 : Int) < k := of_decide_eq_true h
        exact ⟨rfl, pk (by decide) fun r h0 h1 => q1 _ ⟨r, rfl, h0, by omega, fun _ => by omega⟩⟩
      · exact q1 _ ⟨0, rfl, by omega, by omega, fun z => by omega⟩
    rintro _ ⟨i, rfl, i0, i6, ik⟩
    refine ⟨trivial, ite3 (fun h => ?_) (fun h => ?_)⟩
    · have sz : (letS ls).length = ls.length := by
        show ((ls.map fun c => 97 + c.val).toArray).size = _
        simp
      refine ⟨by rw [sz, sizeLine_eq]; omega, rfl, pk (by rw [sz]; omega) fun r h0 h1 => ⟨by rw [sz, sizeLine_eq]; omega, ?_⟩⟩
      rw [sz] at h1
      obtain ⟨j, rfl⟩ := Int.eq_ofNat_of_zero_le h0
      have hj : j < ls.length := by omega
      have e : atI (letS ls).cps.toList (j : Int) = some (97 + ls[j].val) := by
        refine L2.atI_nat ?_
        show (ls.map fun c => 97 + c.val)[j]? = _
        rw [List.getElem?_map, List.getElem?_eq_getElem hj]
        rfl
      show match atI (letS ls).cps.toList (j : Int) with | some c => _ | none => _
      rw [e]
      exact q (.let ls[j]) (Nat.zero_le _) (by simp only [Rw.nodes]; exact Nat.pow_pos (by decide)) rfl
    have h2 : 2 ≤ i := by
      have : ¬ i < 2 := fun z => h (decide_eq_true z)
      omega
    have k0 := ik h2
    have p4 : 4 ^ k = 4 * 4 ^ (k - 1) := by
      have e : k = (k - 1) + 1 := by omega
      rw [e, Nat.pow_succ, Nat.add_sub_cancel]
      omega
    have p1 : 1 ≤ 4 ^ (k - 1) := Nat.pow_pos (by decide)
    have ek : ((k : Int) - 1) = ((k - 1 : Nat) : Int) := by omega
    refine ite3 (fun h => ?_) (fun h_2 => ?_)
    · refine ⟨trivial, rfl, ls, k - 1, by rw [← ek], hl0, hl, by omega, by omega, fun r d1 d2 d3 => ⟨sl2, ?_⟩⟩
      refine q (.right r) ?_ ?_ (by simp only [Rw.wf]; exact d3)
      · simp only [Rw.dep]; omega
      · simp only [Rw.nodes]; omega
    refine ite3 (fun h => ?_) (fun h => ?_)
    · refine ⟨trivial, rfl, ls, k - 1, by rw [← ek], hl0, hl, by omega, by omega, fun r d1 d2 d3 => ⟨sl2, ?_⟩⟩
      refine q (.left r) ?_ ?_ (by simp only [Rw.wf]; exact d3)
      · simp only [Rw.dep]; omega
      · simp only [Rw.nodes]; omega
    have n2 : i ≠ 2 := fun z => h_2 (by subst z; rfl)
    have n3 : i ≠ 3 := fun z => h (by subst z; rfl)
    dsimp only
    show wIf _ _ _ _ _
    refine bind_of (fun z => ∃ m : Int, z = .va (.int m) ∧ 1 ≤ m ∧ m ≤ 3 ∧ (i = 4 → 2 ≤ m)) (fun Q1 q1 => ?_) ?_
    · refine ite3 (fun h => ?_) (fun h => ?_)
      · refine ⟨by show 3 ≤ sizeLine; decide, rfl, pk (by decide) fun r h0 h1 => ?_⟩
        have : r = 0 ∨ r = 1 ∨ r = 2 := by omega
        rcases this with rfl | rfl | rfl
        · exact q1 _ ⟨2, rfl, by decide, by decide, fun _ => by decide⟩
        · exact q1 _ ⟨2, rfl, by decide, by decide, fun _ => by decide⟩
        · exact q1 _ ⟨3, rfl, by decide, by decide, fun _ => by decide⟩
      · have h4 : i ≠ 4 := fun z => h (by subst z; rfl)
        refine ⟨rfl, pk (by decide) fun r h0 h1 => ?_⟩
        exact q1 _ ⟨1 + r, rfl, by omega, by omega, fun z => absurd z h4⟩
    rintro _ ⟨m, rfl, m1, m3, m4⟩
    have fin : ∀ (wd : Str) (mk : List Rw → Rw) (lo : Nat), (lo : Int) ≤ m → (∀ rs, (mk rs).toD = .tuple [.str wd, .tuple (Rw.toDs rs)]) → (∀ rs, (mk rs).dep = Rw.depL rs + 1) → (∀ rs, (mk rs).nodes = 1 + Rw.nodesL rs) → (∀ rs, (mk rs).wf = (decide (lo ≤ rs.length) && Rw.wfL rs)) →
        ∀ out, Al (fun _ e => ∃ r : Rw, e = r.toD ∧ r.dep ≤ k - 1 ∧ r.nodes ≤ 4 ^ (k - 1) ∧ r.wf = true) (rangeD 0 m.toNat) out → Q (.va (.tuple [.str wd, .tuple out])) := by
      intro wd mk lo hlo e1 e2 e3 e4 out ho
      obtain ⟨rs, rfl, hlen, hd, hn, hw⟩ := al_rows ho
      have hm : rs.length = m.toNat := by
        rw [hlen]
        show ((List.range m.toNat).map _).length = _
        rw [List.length_map, List.length_range]
      rw [← Rw.toDs_eq, ← e1]
      refine q (mk rs) ?_ ?_ ?_
      · rw [e2]; omega
      · rw [e3]
        have : rs.length * 4 ^ (k - 1) ≤ 3 * 4 ^ (k - 1) := Nat.mul_le_mul_right _ (by omega)
        omega
      · rw [e4, hw, Bool.and_true]; exact decide_eq_true (by omega)
    have each : ∀ (d : PyData) (A : PyData → Prop) (B : Prop), (∀ x, (∃ r : Rw, x = r.toD ∧ r.dep ≤ k - 1 ∧ r.nodes ≤ 4 ^ (k - 1) ∧ r.wf = true) → A x) → fs__law_draw_row n [.so, .va (.str (letS ls)), .va (.int ((k : Int) - 1))] (fun z => A z.dat) :=
      fun d A B hA => ⟨ls, k - 1, by rw [← ek], hl0, hl, by omega, by omega, fun r d1 d2 d3 => hA _ ⟨r, rfl, d1, d2, d3⟩⟩
    have i45 : i = 4 ∨ i = 5 := by omega
    have mb : -(2 ^ 62) ≤ m ∧ m < 2 ^ 62 := by omega
    have mc : m ≤ 1000000 := by omega
    rcases i45 with rfl | rfl
    · refine ⟨sl2, trivial, mb, ⟨rfl, mc⟩, lcW_each _ _ _ (fun d _ A B hA => ⟨trivial, rfl, each d A B hA⟩) fun out ho => ⟨sl2, ?_⟩⟩
      exact fin sJ .join 2 (m4 rfl) (fun rs => by simp only [Rw.toD]) (fun rs => by simp only [Rw.dep]) (fun rs => by simp only [Rw.nodes]) (fun rs => by simp only [Rw.wf]) out ho
    · refine ⟨sl2, trivial, mb, ⟨rfl, mc⟩, lcW_each _ _ _ (fun d _ A B hA => ⟨trivial, rfl, each d A B hA⟩) fun out ho => ⟨sl2, ?_⟩⟩
      exact fin sM .mix 1 (by omega) (fun rs => by simp only [Rw.toD]) (fun rs => by simp only [Rw.dep]) (fun rs => by simp only [Rw.nodes]) (fun rs => by simp only [Rw.wf]) out ho
end
/-- one of some things, or of some letters -/
def fs__law_choice_of : FSp := fun as Q => (∃ xs : List PyData, as = [.so, .va (.list xs)] ∧ 0 < xs.length ∧ xs.length ≤ 1000 ∧ ∀ x ∈ xs, Q (.va x)) ∨ ∃ ls : List (Fin 26), as = [.so, .va (.str (letS ls))] ∧ 0 < ls.length ∧ ls.length ≤ 26 ∧ ∀ c ∈ ls, Q (.va (Rw.let c).toD)
theorem mo__law_choice_of : MoF fs__law_choice_of := fun as Q Q' k h => h.imp (fun ⟨xs, h1, h2, h3, h4⟩ => ⟨xs, h1, h2, h3, fun x m => k _ (h4 x m)⟩) (fun ⟨ls, h1, h2, h3, h4⟩ => ⟨ls, h1, h2, h3, fun c m => k _ (h4 c m)⟩)
section
variable {P : Program} {w : World} {K : PySem.W.Frag} {mg : Str → Option Value} {base : Heap}
theorem ok__law_choice_of (T : Top K mg base) : FnG P w K mg base CX0 (2) T.f__law_choice_of T.d__law_choice_of ["_law_source", "_law_things"] (PSp K 2 (fs__law_choice_of)) := by
  refine fn_data T.F__law_choice_of sc__law_choice_of (fun cdv A outer s H E hr => (evb_one (evs_ret (evr_ix (id_ix hr.rm.units) (ev_nameS 1) (evr_call (ok__law_pick T) mo__law_pick (hr.mono (by omega)) T.C__law_pick.hm T.C__law_pick.hk T.C__law_pick.hb (eva_so 0 (eva_cons (evr_blt cd_len T.b_len (by decide +kernel) (evl_cons (ev_nameS 1) evl_nil)).cl eva_nil))).cl)))) (fun as Q hn hq => ?_)
  rcases hq with ⟨xs, rfl, h0, h1, q⟩ | ⟨ls, rfl, h0, h1, q⟩
  · refine ⟨rfl, pk (by show (xs.length : Int) < 2 ^ 20; omega) fun i i0 i1 => rdIx_all i0 (by have i1 : i < (xs.length : Int) ∨ i = 0 := i1; omega) fun v hv => q v hv⟩
  · have sz : (letS ls).length = ls.length := by
      show ((ls.map fun c => 97 + c.val).toArray).size = _
      simp
    refine ⟨by rw [sz, sizeLine_eq]; omega, rfl, pk (by rw [sz]; omega) fun r h2 h3 => ⟨by rw [sz, sizeLine_eq]; omega, ?_⟩⟩
    rw [sz] at h3
    obtain ⟨j, rfl⟩ := Int.eq_ofNat_of_zero_le h2
    have hj : j < ls.length := by omega
    have e : atI (letS ls).cps.toList (j : Int) = some (97 + ls[j].val) := by
      refine L2.atI_nat ?_
      show (ls.map fun c => 97 + c.val)[j]? = _
      rw [List.getElem?_map, List.getElem?_eq_getElem hj]
      rfl
    show match atI (letS ls).cps.toList (j : Int) with | some c => _ | none => _
    rw [e]
    exact q ls[j] (List.getElem_mem hj)
end
def fs__law_parts : FSp := fun as Q => ∃ r : Rw, as = [.va r.toD] ∧ Q (.va (.tuple (r.parts.map Rw.toD)))
theorem mo__law_parts : MoF fs__law_parts := fun as Q Q' k ⟨r, h1, h2⟩ => ⟨r, h1, k _ h2⟩
section
variable {P : Program} {w : World} {K : PySem.W.Frag} {mg : Str → Option Value} {base : Heap}
theorem ok__law_parts (T : Top K mg base) : FnG P w K mg base CX0 (1) T.f__law_parts T.d__law_parts ["_law_row"] (PSp K 1 (fs__law_parts)) := by
  refine fn_data T.F__law_parts sc__law_parts (fun cdv A outer s H E hr => (evb_cons (evs_ifS (evt_tru (evr_is "str" "str" kit_str (ev_nameS 0).bo T.b_isinstance T.b_str boot_isinstance (by decide +kernel)).cl) (evb_one (evs_ret (ev_tup evl_nil))) evb_nil)
    (evb_one (evs_ret (evr_if (evt_cmp (od_in hr.rm.units) (evr_ixC 0 (ev_nameS 0)).cl (ev_tup (evl_cons ev_str (evl_cons ev_str evl_nil))).cl (by with_unfolding_all rfl)) (evr_ixC 1 (ev_nameS 0)) (ev_tup (evl_cons (evr_ixC 1 (ev_nameS 0)).cl evl_nil))))))) (fun as Q hn hq => ?_)
  obtain ⟨r, rfl, q⟩ := hq
  cases r with
  | «let» c =>
    walk_at "dl"
    exact ⟨Nat.zero_le _, q⟩
  | right r =>
    walk_at "run"
    exact ⟨sl2, z1, q⟩
  | left r =>
    walk_at "run"
    exact ⟨sl2, z1, q⟩
  | join rs =>
    simp only [Rw.parts] at q
    walk_at "run"
    rw [Rw.toDs_eq]
    exact ⟨sl2, q⟩
  | mix rs =>
    simp only [Rw.parts] at q
    walk_at "run"
    rw [Rw.toDs_eq]
    exact ⟨sl2, q⟩
end
def fs__law_size (n : Nat) : FSp := fun as Q => ∃ r : Rw, r.dep < n ∧ r.nodes ≤ 1000000 ∧ as = [.va r.toD] ∧ Q (.va (.int r.nodes))
theorem mo__law_size (n : Nat) : MoF (fs__law_size n) := fun as Q Q' k ⟨r, h1, h2, h3, h4⟩ => ⟨r, h1, h2, h3, k _ h4⟩
theorem no__law_size (as : List AV) (Q : RV → Prop) (h : fs__law_size 0 as Q) : False := by
  obtain ⟨_, z, _⟩ := h
  exact Nat.not_lt_zero _ z
section
variable {P : Program} {w : World} {K : PySem.W.Frag} {mg : Str → Option Value} {base : Heap}
theorem ok__law_size (T : Top K mg base) : ∀ n : Nat, FnG P w K mg base CX0 (n + 2) T.f__law_size T.d__law_size ["_law_row"] (PSp K 1 (fs__law_size n))
  | 0 => (FnG.no.mono (Nat.zero_le _)).imp fun vs H Q E ⟨S, Oc, as, h1, h2, h3, h4, h5, h6⟩ => (no__law_size as _ h6).elim
  | n + 1 => by
    have G := ok__law_size T n
    refine FnG.mono (j := (n + 2) + 1) (fn_data T.F__law_size sc__law_size (fun cdv A outer s H E hr => (evb_one (evs_ret (evr_op od_add ev_int (evr_blt (cd_sum rfl) T.b_sum (by decide +kernel) (evl_cons ((evc_lc (own := [("_law_one", 1)]) (evr_call (ok__law_parts T) mo__law_parts (hr.mono (by omega)) T.C__law_parts.hm T.C__law_parts.hk T.C__law_parts.hb (eva_cons (ev_name 0) eva_nil)).cl (blkOk_by (N := ["_law_row", "_law_one"]) (sc := defScope s__law_size) (by decide +kernel)) (fun _ _ _ _ _ => (evg_name 1 sc__law_size.nd)) (fun _ _ _ _ _ => evi_nil) (fun _ _ _ _ _ => (evr_call G (mo__law_size n) (hr.mono (by omega)) T.C__law_size.hm T.C__law_size.hk T.C__law_size.hb (eva_cons (ev_name 1) eva_nil)))).rv rfl sc__law_size.nd).cl evl_nil)).cl)))) (fun as Q hn hq => ?_)) (by omega)
    obtain ⟨r, hd, hz, rfl, q⟩ := hq
    have hno := r.nodes_eq
    have hl := Rw.len_le r.parts
    have kid : ∀ s ∈ r.parts, ∀ A : RV → Prop, A (.va (.int s.nodes)) → fs__law_size n [.va s.toD] A := fun s ms A hA => by
      have h1 := r.dep_parts s ms
      have h2 := Rw.nodes_mem ms
      exact ⟨s, by omega, by omega, rfl, hA⟩
    have hsum : Q (.va (.int (1 + (r.parts.map fun s => (s.nodes : Int)).sum))) := by rw [nodes_sum]; exact q
    exact ⟨rfl, r, rfl, ⟨rfl, by rw [List.length_map, sizeLine_eq]; omega⟩, lcW_rows Rw.toD (fun s => .int s.nodes) r.parts _ (fun s ms A B hA => ⟨rfl, kid s ms (fun z => A z.dat) hA⟩) ⟨List.map (fun s : Rw => (s.nodes : Int)) r.parts, by rw [List.map_map]; rfl, hsum⟩⟩
end
/-- a row with one more word round it -/
def fs__law_wrapped : FSp := fun as Q => ∃ (r : Rw) (ls : List (Fin 26)), as = [.so, .va r.toD, .va (.str (letS ls))] ∧ 0 < ls.length ∧ ls.length ≤ 26 ∧ r.wf = true ∧ ∀ s : Rw, s.wf = true → s.dep ≤ r.dep + 1 → s.nodes ≤ r.nodes + 2 → Q (.va s.toD)
theorem mo__law_wrapped : MoF fs__law_wrapped := fun as Q Q' k ⟨r, ls, h1, h2, h3, h4, h5⟩ => ⟨r, ls, h1, h2, h3, h4, fun s a b c => k _ (h5 s a b c)⟩
section
variable {P : Program} {w : World} {K : PySem.W.Frag} {mg : Str → Option Value} {base : Heap}
theorem ok__law_wrapped (T : Top K mg base) : FnG P w K mg base CX0 (4) T.f__law_wrapped T.d__law_wrapped ["_law_source", "_law_row", "_law_letters_here"] (PSp K 3 (fs__law_wrapped)) := by
  refine fn_data T.F__law_wrapped sc__law_wrapped (fun cdv A outer s H E hr => (evb_cons (evs_set 3 (evr_call (ok__law_choice_of T) mo__law_choice_of (hr.mono (by omega)) T.C__law_choice_of.hm T.C__law_choice_of.hk T.C__law_choice_of.hb (eva_so 0 (eva_cons (ev_name 2) eva_nil))) sc__law_wrapped.nd)
    (evb_one (evs_ret (evr_call (ok__law_choice_of T) mo__law_choice_of (hr.mono (by omega)) T.C__law_choice_of.hm T.C__law_choice_of.hk T.C__law_choice_of.hb (eva_so 0 (eva_cons (ev_lst (evl_cons (ev_tup (evl_cons ev_str (evl_cons (ev_name 1) evl_nil))).cl (evl_cons (ev_tup (evl_cons ev_str (evl_cons (ev_name 1) evl_nil))).cl (evl_cons (ev_tup (evl_cons ev_str (evl_cons (ev_tup (evl_cons (ev_name 1) evl_nil)).cl evl_nil))).cl (evl_cons (ev_tup (evl_cons ev_str (evl_cons (ev_tup (evl_cons (ev_name 3) (evl_cons (ev_name 1) evl_nil))).cl evl_nil))).cl (evl_cons (ev_tup (evl_cons ev_str (evl_cons (ev_tup (evl_cons (ev_name 1) (evl_cons (ev_name 3) evl_nil))).cl evl_nil))).cl (evl_cons (ev_tup (evl_cons ev_str (evl_cons (ev_tup (evl_cons (ev_name 3) (evl_cons (ev_name 1) evl_nil))).cl evl_nil))).cl evl_nil))))))).cl eva_nil))))))) (fun as Q hn hq => ?_)
  obtain ⟨r, ls, rfl, h0, h1, hw, q⟩ := hq
  refine ⟨rfl, .inr ⟨ls, rfl, h0, h1, fun c mc => ?_⟩⟩
  have s6 : 6 ≤ sizeLine := by decide
  refine ⟨sl2, sl2, z1, sl2, sl2, sl2, sl2, sl2, sl2, sl2, s6, rfl, .inl ⟨_, rfl, by show 0 < 6; decide, by show 6 ≤ 1000; decide, fun x m => ?_⟩⟩
  simp only [List.mem_cons, List.not_mem_nil, or_false] at m
  rcases m with rfl | rfl | rfl | rfl | rfl | rfl
  · have := q (.right r) (by simp only [Rw.wf]; exact hw) (by simp only [Rw.dep]; omega) (by simp only [Rw.nodes]; omega)
    simp only [Rw.toD] at this
    exact this
  · have := q (.left r) (by simp only [Rw.wf]; exact hw) (by simp only [Rw.dep]; omega) (by simp only [Rw.nodes]; omega)
    simp only [Rw.toD] at this
    exact this
  · have := q (.mix [r]) (by simp [Rw.wf, Rw.wfL, hw]) (by simp only [Rw.dep, Rw.depL]; omega) (by simp only [Rw.nodes, Rw.nodesL]; omega)
    simp only [Rw.toD, Rw.toDs] at this
    exact this
  · have := q (.mix [.let c, r]) (by simp [Rw.wf, Rw.wfL, hw]) (by simp only [Rw.dep, Rw.depL]; omega) (by simp only [Rw.nodes, Rw.nodesL]; omega)
    simp only [Rw.toD, Rw.toDs] at this
    exact this
  · have := q (.join [r, .let c]) (by simp [Rw.wf, Rw.wfL, hw]) (by simp only [Rw.dep, Rw.depL]; omega) (by simp only [Rw.nodes, Rw.nodesL]; omega)
    simp only [Rw.toD, Rw.toDs] at this
    exact this
  · have := q (.join [.let c, r]) (by simp [Rw.wf, Rw.wfL, hw]) (by simp only [Rw.dep, Rw.depL]; omega) (by simp only [Rw.nodes, Rw.nodesL]; omega)
    simp only [Rw.toD, Rw.toDs] at this
    exact this
end
/-- a row drawn that fits -/
def fs__law_draw_fit_row : FSp := fun as Q => ∃ ls : List (Fin 26), as = [.so, .va (.str (letS ls))] ∧ 0 < ls.length ∧ ls.length ≤ 26 ∧ ∀ r : Rw, r.wf = true → r.dep ≤ 6 → r.nodes ≤ 25 → Q (.va r.toD)
theorem mo__law_draw_fit_row : MoF fs__law_draw_fit_row := fun as Q Q' k ⟨ls, h1, h2, h3, h4⟩ => ⟨ls, h1, h2, h3, fun r a b c => k _ (h4 r a b c)⟩
section
variable {P : Program} {w : World} {K : PySem.W.Frag} {mg : Str → Option Value} {base : Heap}
theorem ok__law_draw_fit_row (T : Top K mg base) : FnG P w K mg base CX0 (12) T.f__law_draw_fit_row T.d__law_draw_fit_row ["_law_source", "_law_letters_here"] (PSp K 2 (fs__law_draw_fit_row)) := by
  refine fn_data T.F__law_draw_fit_row sc__law_draw_fit_row (fun cdv A outer s H E hr => (evb_cons (evs_set 2 (evr_call (ok__law_pick T) mo__law_pick (hr.mono (by omega)) T.C__law_pick.hm T.C__law_pick.hk T.C__law_pick.hb (eva_so 0 (eva_cons ev_int eva_nil))) sc__law_draw_fit_row.nd)
    (evb_cons (evs_ifS (evt_cmp (od_eq2 hr.rm.units) (ev_nameS 2).bo ev_int) (evb_cons (evs_setLC 3 (evc_lcR (own := [("_law_lap", 4)]) (evr_op od_add ev_int (evr_call (ok__law_pick T) mo__law_pick (hr.mono (by omega)) T.C__law_pick.hm T.C__law_pick.hk T.C__law_pick.hb (eva_so 0 (eva_cons ev_int eva_nil))).cl).cl (blkOk_by (N := ["_law_source", "_law_letters_here", "_law_kind", "_law_parts_here", "_law_lap", "_law_row"]) (sc := defScope s__law_draw_fit_row) (by decide +kernel)) T.b_range (fun _ _ _ _ _ => (evg_name 4 sc__law_draw_fit_row.nd)) (fun _ _ _ _ _ => evi_nil) (fun _ _ _ _ _ => (evr_call (ok__law_draw_row T 6) (mo__law_draw_row 6) (hr.mono (by omega)) T.C__law_draw_row.hm T.C__law_draw_row.hk T.C__law_draw_row.hb (eva_so 0 (eva_cons (ev_name 1) (eva_cons ev_int eva_nil)))))) rfl sc__law_draw_fit_row.nd)
     (evb_frz 3 (evb_one (evs_ret (ev_tup (evl_cons (evr_ix (id_ix hr.rm.units) (ev_lst (evl_cons ev_str (evl_cons ev_str evl_nil))).cl (evr_call (ok__law_pick T) mo__law_pick (hr.mono (by omega)) T.C__law_pick.hm T.C__law_pick.hk T.C__law_pick.hb (eva_so 0 (eva_cons ev_int eva_nil))).cl).cl (evl_cons (evr_typ cd_tuple T.b_tuple (by decide +kernel) (evl_cons (ev_nameS 3) evl_nil)).cl evl_nil))))))) evb_nil)
    (evb_cons (evs_ifS (evt_cmp od_gt (ev_nameS 2) ev_int) (evb_cons (evs_set 5 (evr_call (ok__law_draw_row T 6) (mo__law_draw_row 6) (hr.mono (by omega)) T.C__law_draw_row.hm T.C__law_draw_row.hk T.C__law_draw_row.hb (eva_so 0 (eva_cons (ev_name 1) (eva_cons ev_int eva_nil)))) sc__law_draw_fit_row.nd)
     (evb_one (evs_ret (evr_if (evt_cmp od_lt (evr_call (ok__law_size T 8) (mo__law_size 8) (hr.mono (by omega)) T.C__law_size.hm T.C__law_size.hk T.C__law_size.hb (eva_cons (ev_name 5) eva_nil)).cl ev_int) (ev_name 5).rv (evr_call (ok__law_draw_row T 6) (mo__law_draw_row 6) (hr.mono (by omega)) T.C__law_draw_row.hm T.C__law_draw_row.hk T.C__law_draw_row.hb (eva_so 0 (eva_cons (ev_name 1) (eva_cons ev_int eva_nil)))))))) evb_nil)
    (evb_cons (evs_set 5 (evr_call (ok__law_choice_of T) mo__law_choice_of (hr.mono (by omega)) T.C__law_choice_of.hm T.C__law_choice_of.hk T.C__law_choice_of.hb (eva_so 0 (eva_cons (ev_name 1) eva_nil))) sc__law_draw_fit_row.nd)
    (evb_cons (evs_forR (evr_call (ok__law_pick T) mo__law_pick (hr.mono (by omega)) T.C__law_pick.hm T.C__law_pick.hk T.C__law_pick.hb (eva_so 0 (eva_cons ev_int eva_nil))).cl (evg_name 4 sc__law_draw_fit_row.nd) (evb_one (evs_set 5 (evr_call (ok__law_wrapped T) mo__law_wrapped (hr.mono (by omega)) T.C__law_wrapped.hm T.C__law_wrapped.hk T.C__law_wrapped.hb (eva_so 0 (eva_cons (ev_name 5) (eva_cons (ev_name 1) eva_nil)))) sc__law_draw_fit_row.nd)) rfl T.b_range)
    (evb_one (evs_retO 5)))))))) (fun as Q hn hq => ?_)
  obtain ⟨ls, rfl, h0, h1, q⟩ := hq
  refine ⟨rfl, pk (by decide) fun i i0 i1 => ?_⟩
  refine ite3 (fun _ => ?_) (fun _ => ?_)
  · refine ⟨rfl, pk (by decide) fun j j0 j1 => ⟨by omega, ⟨rfl, by omega⟩, ?_⟩⟩
    refine lcW_each (fun _ e => ∃ r : Rw, e = r.toD ∧ r.dep ≤ 1 ∧ r.nodes ≤ 4 ^ 1 ∧ r.wf = true) _ _ (fun d _ A B hA => ⟨rfl, ls, 1, rfl, h0, h1, by decide, by decide, fun r a b c => hA _ ⟨r, rfl, a, b, c⟩⟩) fun out ho => ?_
    obtain ⟨rs, rfl, hl, hd, hn, hw⟩ := al_rows ho
    have hl : rs.length = (4 + j).toNat := by rw [hl]; unfold rangeD; rw [List.length_map, List.length_range]
    have hn2 : rs.length * 4 ^ 1 ≤ 5 * 4 ^ 1 := Nat.mul_le_mul_right _ (by omega)
    have hn3 : Rw.nodesL rs ≤ 20 := by omega
    refine ⟨sl2, rfl, pk (by decide) fun j2 k0 k1 => rdIx_all k0 (by show j2 < 2; omega) fun v hv => ?_⟩
    simp only [List.mem_cons, List.not_mem_nil, or_false] at hv
    rcases hv with rfl | rfl
    · have := q (.join rs) (by simp only [Rw.wf, Bool.and_eq_true, decide_eq_true_eq]; exact ⟨by omega, hw⟩) (by simp only [Rw.dep]; omega) (by simp only [Rw.nodes]; omega)
      simp only [Rw.toD, Rw.toDs_eq] at this
      exact ⟨sl2, this⟩
    · have := q (.mix rs) (by simp only [Rw.wf, Bool.and_eq_true, decide_eq_true_eq]; exact ⟨by omega, hw⟩) (by simp only [Rw.dep]; omega) (by simp only [Rw.nodes]; omega)
      simp only [Rw.toD, Rw.toDs_eq] at this
      exact ⟨sl2, this⟩
  refine ⟨trivial, ite3 (fun _ => ?_) (fun _ => ?_)⟩
  · refine ⟨rfl, ls, 3, rfl, h0, h1, by decide, by decide, fun r d1 d2 d3 => ?_⟩
    have p3 : (4 : Nat) ^ 3 = 64 := by decide
    refine ⟨rfl, r, by omega, by omega, rfl, trivial, ite3 (fun h => ?_) (fun _ => ?_)⟩
    · have h : (r.nodes : Int) < 25 := of_decide_eq_true h
      exact q r d3 (by omega) (by omega)
    · have p2 : (4 : Nat) ^ 2 = 16 := by decide
      exact ⟨rfl, ls, 2, rfl, h0, h1, by decide, by decide, fun r d1 d2 d3 => q r d3 (by omega) (by omega)⟩
  refine ⟨rfl, .inr ⟨ls, rfl, h0, h1, fun c mc => ?_⟩⟩
  refine ⟨rfl, pk (by decide) fun j j0 j1 => ⟨by omega, ?_⟩⟩
  have j7 : j.toNat ≤ 6 := by omega
  refine forW_inv (fun ds sd => ∃ (r : Rw) (y3 y4 : SV), r.wf = true ∧ r.dep + ds.length ≤ 6 ∧ r.nodes + 2 * ds.length ≤ 13 ∧ sd = [.so, .va (.str (letS ls)), .va (.int i), y3, y4, .va r.toD]) ?_ ?_ _ _ ⟨.let c, _, _, rfl, by unfold rangeD; rw [List.length_map, List.length_range]; simp only [Rw.dep]; omega, by unfold rangeD; rw [List.length_map, List.length_range]; simp only [Rw.nodes]; omega, rfl⟩
  · rintro sd ⟨r, y3, y4, w, hd, hn, rfl⟩
    simp only [List.length_nil] at hd hn
    exact q r w (by omega) (by omega)
  · rintro d ds sd k hk ⟨r, y3, y4, w, hd, hn, rfl⟩
    simp only [List.length_cons] at hd hn
    exact ⟨rfl, r, ls, rfl, h0, h1, w, fun s s1 s2 s3 => hk _ ⟨s, _, _, s1, by omega, by omega, rfl⟩⟩
end
end K02
set_option Elab.async false
set_option linter.all false
set_option maxRecDepth 100000
set_option maxHeartbeats 400000
namespace K02
open PySem PySem.Spec PyProof.Rows L2 DL
variable [Tb]
theorem gt_go {i : Nat} {d : PyData} {sd : SD} {Q : SD → Prop} (h : Q (sd.set i (.va d))) : gtName i d sd Q := h
theorem nameS_then {i : Nat} {sd : SD} {d : PyData} {K : PyData → Prop} (g : getS sd i = .va d) (h : K d) : wNameS i sd K := by unfold wNameS; rw [g]; exact h
mutual
/-- how deep -/
def depT : Rose → Int
  | .node _ cs => 1 + maxDef (depsL cs) (-1)
def depsL : List Rose → List Int
  | [] => []
  | c :: cs => depT c :: depsL cs
end
theorem depsL_eq : ∀ cs : List Rose, depsL cs = cs.map depT
  | [] => rfl
  | c :: cs => by
    show depT c :: depsL cs = _
    rw [depsL_eq cs]; rfl
theorem depT_eq (t : Rose) : depT t = 1 + maxDef (t.cs.map depT) (-1) := by
  cases t with
  | node d cs =>
    show 1 + maxDef (depsL cs) (-1) = _
    rw [depsL_eq]; rfl
theorem max_fold : ∀ (is : List Int) (i : Int) (n : Nat), i = (n : Int) → ∀ ns : List Nat, is = ns.map (fun k : Nat => (k : Int)) → is.foldl max i = ((ns.foldl max n : Nat) : Int)
  | [], i, n, h, ns, e => by
    cases ns with
    | nil => exact h
    | cons => cases e
  | j :: is, i, n, h, ns, e => by
    cases ns with
    | nil => cases e
    | cons m ns =>
      rw [List.map_cons] at e
      injection e with e1 e2
      show is.foldl max (max i j) = ((ns.foldl max (max n m) : Nat) : Int)
      exact max_fold is _ _ (by omega) ns e2
theorem depL_fold : ∀ (rs : List Rw) (n : Nat), (rs.map Rw.dep).foldl max n = max n (Rw.depL rs)
  | [], n => by simp [Rw.depL]
  | r :: rs, n => by
    show (rs.map Rw.dep).foldl max (max n r.dep) = max n (max r.dep (Rw.depL rs))
    rw [depL_fold rs]; omega
theorem max_deps {rs : List Rw} (h0 : rs ≠ []) : maxDef (rs.map fun r => ((r.dep : Nat) : Int)) (-1) = ((Rw.depL rs : Nat) : Int) := by
  cases rs with
  | nil => exact absurd rfl h0
  | cons r rs =>
    show (rs.map fun r => ((r.dep : Nat) : Int)).foldl max (r.dep : Int) = _
    rw [max_fold _ _ r.dep rfl (rs.map Rw.dep) (by rw [List.map_map]; rfl), depL_fold]
    rfl
mutual
theorem dep_rose : ∀ r : Rw, r.wf = true → depT r.rose = ((r.dep : Nat) : Int)
  | .let c, _ => by simp only [Rw.rose, depT, depsL, maxDef, Rw.dep]; decide
  | .join rs, h => by
    simp only [Rw.wf, Bool.and_eq_true, decide_eq_true_eq] at h
    have h2 := deps_rose rs h.2
    simp only [Rw.rose, depT, Rw.dep]
    rw [h2, max_deps (fun e => by rw [e] at h; simp at h)]
    omega
  | .right r, h => by
    have := dep_rose r (by simpa [Rw.wf] using h)
    simp only [Rw.rose, depT, depsL, maxDef, Rw.dep, this, List.foldl_nil]
    omega
  | .left r, h => by
    have := dep_rose r (by simpa [Rw.wf] using h)
    simp only [Rw.rose, depT, depsL, maxDef, Rw.dep, this, List.foldl_nil]
    omega
  | .mix rs, h => by
    simp only [Rw.wf, Bool.and_eq_true, decide_eq_true_eq] at h
    have h2 := deps_rose rs h.2
    simp only [Rw.rose, depT, Rw.dep]
    rw [h2, max_deps (fun e => by rw [e] at h; simp at h)]
    omega
theorem deps_rose : ∀ rs : List Rw, Rw.wfL rs = true → depsL (Rw.roseL rs) = rs.map fun r => ((r.dep : Nat) : Int)
  | [], _ => by simp only [Rw.roseL, depsL, List.map_nil]
  | r :: rs, h => by
    simp only [Rw.wfL, Bool.and_eq_true] at h
    simp only [Rw.roseL, depsL, List.map_cons, dep_rose r h.1, deps_rose rs h.2]
end
def valT (t : Rose) : PyData := .int (depT t)
def fs__depth_over : FSp := fun as Q => ∃ (d : PyData) (is : List Int), as = [.va d, .va (.list (is.map .int))] ∧ Q (.va (.int (1 + maxDef is (-1))))
theorem mo__depth_over : MoF fs__depth_over := fun as Q Q' k ⟨d, is, h1, h2⟩ => ⟨d, is, h1, k _ h2⟩
section
variable {P : Program} {w : World} {K : PySem.W.Frag} {mg : Str → Option Value} {base : Heap}
theorem ok__depth_over (T : Top K mg base) : FnG P w K mg base CX0 (1) T.f__depth_over T.d__depth_over ["_part", "depths"] (PSp K 2 (fs__depth_over)) := by
  refine fn_data T.F__depth_over sc__depth_over (fun cdv A outer s H E hr => (evb_one (evs_ret (evr_op od_add ev_int (evr_maxD rfl hr.rm.units T.b_max (by decide +kernel) (ev_nameS 1) (evr_neg ev_int).cl).cl)))) (fun as Q hn hq => ?_)
  obtain ⟨d, is, rfl, q⟩ := hq
  exact ⟨is, rfl, q⟩
end
theorem tell_depth : TellOk okRow valT fs__depth_over := fun t ht hm Q q => ⟨t.d, t.cs.map depT, by rw [List.map_map]; rfl, q (.va (.int (1 + maxDef (t.cs.map depT) (-1)))) (by
  show PyData.int _ = PyData.int _
  rw [depT_eq t])⟩
theorem rdIx_lastL {xs : List PyData} {v : PyData} {Q : RV → Prop} (q : Q (.va v)) : rdIx (.list (xs ++ [v])) (.int (-1)) Q := et_lastL q
def fs_depth_within (fp : Addr) : FSp := fun as Q => ∃ t : Rose, okRow t ∧ t.many ≤ 1000000 ∧ as = [.va t.d, .fn fp] ∧ Q (.va (valT t))
theorem mo_depth_within {fp : Addr} : MoF (fs_depth_within fp) := fun as Q Q' k ⟨t, h1, h2, h3, h4⟩ => ⟨t, h1, h2, h3, k _ h4⟩
section
variable {P : Program} {w : World} {K : PySem.W.Frag} {mg : Str → Option Value} {base : Heap}
theorem ok_depth_within (T : Top K mg base) {fp : Addr} {dp : FuncData} {pp : List Str} (G_parts_of : FnG P w K mg base CX0 1 fp dp pp (PSp K 1 (fsNode okRow))) (K_parts_of : PySem.W.keepIn K (.ref fp) = true) (B_parts_of : Binds K dp pp []) : FnG P w K mg base CX0 (6) T.f_depth_within T.d_depth_within ["whole", "parts_of"] (PSp K 2 (fs_depth_within fp)) := by
  refine fn_data T.F_depth_within sc_depth_within (fun cdv A outer s H E hr => (evb_one (evs_ret (evr_ix (id_ix hr.rm.units) (evr_call (ok_each_told T her_row G_parts_of K_parts_of B_parts_of mo__depth_over tell_depth (ok__depth_over T) T.C__depth_over.hk T.C__depth_over.hb) mo_each_told (hr.mono (by omega)) T.C_each_told.hm T.C_each_told.hk T.C_each_told.hb (eva_cons (ev_name 0) (eva_lfn 1 fp (eva_fn T.C__depth_over.hm eva_nil)))).cl (evr_neg ev_int).cl)))) (fun as Q hn hq => ?_)
  obtain ⟨t, ht, hm, rfl, q⟩ := hq
  refine ⟨rfl, rfl, t, ht, hm, rfl, ?_⟩
  rw [t.inner_eq, List.map_append]
  exact rdIx_lastL q
end
def fs_depth_of : FSp := fun as Q => ∃ r : Rw, r.wf = true ∧ r.nodes ≤ 1000000 ∧ as = [.va r.toD] ∧ Q (.va (.int r.dep))
theorem mo_depth_of : MoF fs_depth_of := fun as Q Q' k ⟨r, h1, h2, h3, h4⟩ => ⟨r, h1, h2, h3, k _ h4⟩
section
variable {P : Program} {w : World} {K : PySem.W.Frag} {mg : Str → Option Value} {base : Heap}
theorem ok_depth_of (T : Top K mg base) : FnG P w K mg base CX0 (7) T.f_depth_of T.d_depth_of ["row"] (PSp K 1 (fs_depth_of)) := by
  refine fn_data T.F_depth_of sc_depth_of (fun cdv A outer s H E hr => (evb_one (evs_ret (evr_call (ok_depth_within T (ok_parts_of T) T.C_parts_of.hk T.C_parts_of.hb) mo_depth_within (hr.mono (by omega)) T.C_depth_within.hm T.C_depth_within.hk T.C_depth_within.hb (eva_cons (ev_name 0) (eva_fn T.C_parts_of.hm eva_nil)))))) (fun as Q hn hq => ?_)
  obtain ⟨r, hw, hz, rfl, q⟩ := hq
  refine ⟨rfl, r.rose, ⟨r, rfl, hw⟩, by rw [r.rose_many]; exact hz, by rw [r.rose_d], ?_⟩
  show Q (.va (.int (depT r.rose)))
  rw [dep_rose r hw]
  exact q
end
end K02
set_option Elab.async false
set_option linter.all false
set_option maxRecDepth 100000
set_option maxHeartbeats 400000
namespace K02
open PySem PySem.Spec PyProof.Rows L2 DL
variable [Tb]
def strsOf : List PyData → List Str
  | [] => []
  | .str z :: ds => z :: strsOf ds
  | _ :: ds => strsOf ds
def putAll (zs : List Str) (l : List Str) : List Str := zs.foldl (fun l z => putS z l) l
theorem putAll_mem {x : Str} : ∀ {zs l : List Str}, x ∈ putAll zs l ↔ x ∈ zs ∨ x ∈ l
  | [], l => by simp [putAll]
  | z :: zs, l => by
    show x ∈ putAll zs (putS z l) ↔ _
    rw [putAll_mem, putS_mem, List.mem_cons]
    exact ⟨fun h => h.elim (fun a => .inl (.inr a)) fun a => a.elim (fun b => .inl (.inl b)) .inr, fun h => h.elim (fun a => a.elim (fun b => .inr (.inl b)) .inl) fun b => .inr (.inr b)⟩
theorem perm_mem : ∀ {l ks : List Str}, l.Nodup → ks.Nodup → (∀ x, x ∈ ks ↔ x ∈ l) → ks.Perm l
  | [], ks, _, _, h => by
    cases ks with
    | nil => exact .nil
    | cons k ks => exact absurd ((h k).mp List.mem_cons_self) List.not_mem_nil
  | x :: l, ks, nd, nk, h => by
    obtain ⟨n, nd⟩ := List.nodup_cons.mp nd
    have p := List.perm_cons_erase ((h x).mpr List.mem_cons_self)
    have nk' := p.nodup_iff.mp nk
    obtain ⟨n2, nk'⟩ := List.nodup_cons.mp nk'
    refine p.trans (List.Perm.cons x (perm_mem nd nk' fun y => ?_))
    have q := h y
    rw [p.mem_iff, List.mem_cons, List.mem_cons] at q
    constructor
    · intro m
      rcases q.mp (.inr m) with e | m'
      · rw [e] at m; exact absurd m n2
      · exact m'
    · intro m
      rcases q.mpr (.inr m) with e | m'
      · rw [e] at m; exact absurd m n
      · exact m'
theorem lcS_strs {sd : SD} {Q : List Str → Prop} (h1 : ∀ d : PyData, getS (sd.set 1 (.va d)) 1 = .va d) : ∀ (ds : List PyData) (l : List Str), Q (putAll (strsOf ds) l) →
    lcS (gtName 1) (wTru fun sd Q => wIs isStrD (wNameS 1) sd fun r => Q r.dat) (fun sd Q => wName 1 sd fun d => Q (.va d)) sd ds l Q
  | [], l, q => q
  | d :: ds, l, q => by
    refine gt_go ?_
    refine nameS_then (h1 d) ?_
    cases d with
    | str z =>
      have ih := lcS_strs h1 ds (putS z l) q
      have : ∀ K : PyData → Prop, K (.str z) → wName 1 (sd.set 1 (.va (.str z))) K := fun K k => by unfold wName; rw [h1]; exact k
      exact this _ ⟨z, rfl, ih⟩
    | _ => exact lcS_strs h1 ds l q
def letT (c : Fin 26) : Str := ⟨#[97 + c.val]⟩
mutual
def Rw.ltr : Rw → List (Fin 26)
  | .let c => [c]
  | .join rs => Rw.ltrL rs
  | .right r => (Rw.ltr r)
  | .left r => (Rw.ltr r)
  | .mix rs => Rw.ltrL rs
def Rw.ltrL : List Rw → List (Fin 26)
  | [] => []
  | r :: rs => (Rw.ltr r) ++ Rw.ltrL rs
end
theorem strsOf_app : ∀ (a b : List PyData), strsOf (a ++ b) = strsOf a ++ strsOf b
  | [], b => rfl
  | d :: a, b => by
    have ih := strsOf_app a b
    cases d <;> first | exact ih | (show _ :: strsOf (a ++ b) = _ :: (strsOf a ++ strsOf b); rw [ih])
mutual
theorem ltr_strs : ∀ r : Rw, strsOf (r.rose.inner.map Rose.d) = (Rw.ltr r).map letT
  | .let c => by
    simp only [Rw.rose, Rose.inner, Rose.innerL, List.nil_append, List.map_cons, List.map_nil, Rw.ltr, Rose.d, Rw.toD]
    rfl
  | .join rs => by
    simp only [Rw.rose, Rose.inner, List.map_append, List.map_cons, List.map_nil, Rw.ltr, Rose.d, Rw.toD, strsOf_app, ltr_strsL rs]
    exact List.append_nil _
  | .right r => by
    simp only [Rw.rose, Rose.inner, Rose.innerL, List.append_nil, List.map_append, List.map_cons, List.map_nil, Rw.ltr, Rose.d, Rw.toD, strsOf_app, ltr_strs r]
    exact List.append_nil _
  | .left r => by
    simp only [Rw.rose, Rose.inner, Rose.innerL, List.append_nil, List.map_append, List.map_cons, List.map_nil, Rw.ltr, Rose.d, Rw.toD, strsOf_app, ltr_strs r]
    exact List.append_nil _
  | .mix rs => by
    simp only [Rw.rose, Rose.inner, List.map_append, List.map_cons, List.map_nil, Rw.ltr, Rose.d, Rw.toD, strsOf_app, ltr_strsL rs]
    exact List.append_nil _
theorem ltr_strsL : ∀ rs : List Rw, strsOf ((Rose.innerL (Rw.roseL rs)).map Rose.d) = (Rw.ltrL rs).map letT
  | [] => by simp only [Rw.roseL, Rose.innerL, List.map_nil, Rw.ltrL]; rfl
  | r :: rs => by simp only [Rw.roseL, Rose.innerL, List.map_append, Rw.ltrL, strsOf_app, ltr_strs r, ltr_strsL rs]
end
def L26 : List Str := (List.finRange 26).map letT
theorem L26_ok : sortedS L26 = true ∧ L26.Nodup := by decide +kernel
theorem L26_mem (c : Fin 26) : letT c ∈ L26 := List.mem_map.mpr ⟨c, List.mem_finRange c, rfl⟩
/-- the letters of some, ascending -/
def srtL (cs : List (Fin 26)) : List Str := L26.filter fun z => (cs.map letT).contains z
theorem srtL_mem {cs : List (Fin 26)} {z : Str} : z ∈ srtL cs ↔ z ∈ cs.map letT := by
  unfold srtL
  rw [List.mem_filter, List.contains_iff_mem]
  refine ⟨fun h => h.2, fun h => ⟨?_, h⟩⟩
  obtain ⟨c, _, rfl⟩ := List.mem_map.mp h
  exact L26_mem c
theorem srtL_one {cs : List (Fin 26)} {ys : List Str} (ss : sortedS ys = true) (nd : ys.Nodup) (h : ∀ x, x ∈ ys ↔ x ∈ cs.map letT) : ys = srtL cs := by
  have sf : sortedS (srtL cs) = true := sortedS_of_pairwise _ ((sortedS_pair L26_ok.1).filter _)
  exact sortedS_one ss sf (perm_mem (L26_ok.2.filter _) nd fun x => by rw [h x]; exact srtL_mem.symm)
def fs_row_letters : FSp := fun as Q => ∃ r : Rw, r.wf = true ∧ r.nodes ≤ 1000 ∧ as = [.va r.toD] ∧ Q (.fr ((srtL (Rw.ltr r)).map .str))
theorem mo_row_letters : MoF fs_row_letters := fun as Q Q' k ⟨r, h1, h2, h3, h4⟩ => ⟨r, h1, h2, h3, k _ h4⟩
section
variable {P : Program} {w : World} {K : PySem.W.Frag} {mg : Str → Option Value} {base : Heap}
theorem ok_row_letters (T : Top K mg base) : FnG P w K mg base CX0 (6) T.f_row_letters T.d_row_letters ["row"] (PSp K 1 (fs_row_letters)) := by
  refine fn_data T.F_row_letters sc_row_letters (fun cdv A outer s H E hr => (evb_one (evs_ret (evr_sortSC (own := [("part", 1)]) (evr_call (ok_inner_first T her_row (ok_parts_of T) T.C_parts_of.hk T.C_parts_of.hb) mo_inner_first (hr.mono (by omega)) T.C_inner_first.hm T.C_inner_first.hk T.C_inner_first.hb (eva_cons (ev_name 0) (eva_fn T.C_parts_of.hm eva_nil))).cl (blkOk_by (N := ["row", "part"]) (sc := defScope s_row_letters) (by decide +kernel)) rfl sc_row_letters.nd T.b_sorted (fun _ _ _ _ _ => (evg_name 1 sc_row_letters.nd)) (fun _ _ _ _ _ => (evi_one (evt_tru (evr_is "str" "str" kit_str (ev_nameS 1).bo T.b_isinstance T.b_str boot_isinstance (by decide +kernel)).cl))) (fun _ _ _ _ _ => (ev_name 1).rv))))) (fun as Q hn hq => ?_)
  obtain ⟨r, hw, hz, rfl, q⟩ := hq
  refine ⟨rfl, r.rose, ⟨r, rfl, hw⟩, by rw [r.rose_many]; omega, by rw [r.rose_d], ?_⟩
  refine ⟨⟨rfl, by rw [List.length_map, Rose.inner_len, r.rose_many]; exact hz⟩, lcS_strs (fun d => rfl) _ [] fun ys pm ss nd => ?_⟩
  have e : ys = srtL (Rw.ltr r) := srtL_one ss (pm.nodup_iff.mpr nd) fun x => by
    rw [pm.mem_iff, putAll_mem, ltr_strs r]
    exact ⟨fun h => h.elim id fun z => absurd z List.not_mem_nil, .inl⟩
  rw [e]
  exact q
end
end K02
set_option Elab.async false
set_option linter.all false
set_option maxRecDepth 100000
set_option maxHeartbeats 400000
namespace K02
open PySem PySem.Spec PyProof.Rows L2 DL
variable [Tb]
theorem tru_str {sd : SD} {i : Nat} {d : PyData} {b : Bool} (g : getS sd i = .va d) (h : isStrD d = b) {Q : Bool → Prop} (q : Q b) : wTru (fun sd Q => wIs isStrD (wNameS i) sd fun r => Q r.dat) sd Q := by
  subst h
  exact (nameS_then (K := fun d => (fun r : RV => match truD r.dat with | some b => Q b | none => False) (.va (.bool (isStrD d)))) g q :)
theorem wIf_at {α : Type} {t : WB} {u v : SD → (α → Prop) → Prop} {sd : SD} {K : α → Prop} (b : Bool) (h : ∀ Q : Bool → Prop, Q b → t sd Q) (k : if b = true then u sd K else v sd K) : wIf t u v sd K := h _ k
theorem ifS_at {t : WB} {wa wb : WS} {E : ED} {sd : SD} (b : Bool) (h : ∀ Q : Bool → Prop, Q b → t sd Q) (k : if b = true then wa E sd else wb E sd) : wIfS t wa wb E sd := h _ k
theorem depL_is {m : Nat} : ∀ {rs : List Rw}, (∀ s ∈ rs, s.dep ≤ m) → (∃ s ∈ rs, s.dep = m) → Rw.depL rs = m
  | [], _, ⟨s, h, _⟩ => by cases h
  | r :: rs, h, ⟨s, ms, e⟩ => by
    have h1 := h r List.mem_cons_self
    have h2 : Rw.depL rs ≤ m := by
      have : ∀ {rs : List Rw}, (∀ s ∈ rs, s.dep ≤ m) → Rw.depL rs ≤ m := fun {rs} => by
        induction rs with
        | nil => intro _; exact Nat.zero_le _
        | cons r rs ih =>
          intro h
          simp only [Rw.depL]
          have := h r List.mem_cons_self
          have := ih fun s ms => h s (List.mem_cons_of_mem _ ms)
          omega
      exact this fun s ms => h s (List.mem_cons_of_mem _ ms)
    simp only [Rw.depL]
    rcases List.mem_cons.mp ms with rfl | ms
    · omega
    · have := Rw.dep_mem ms
      omega
theorem dep_is {r : Rw} {m : Nat} (hs : isStrD r.toD = false) (h : ∀ s ∈ r.parts, s.dep ≤ m) (h2 : ∃ s ∈ r.parts, s.dep = m) : r.dep = m + 1 := by
  cases r with
  | «let» c => cases hs
  | join rs => simp only [Rw.parts] at h h2; simp only [Rw.dep, depL_is h h2]
  | mix rs => simp only [Rw.parts] at h h2; simp only [Rw.dep, depL_is h h2]
  | right r =>
    obtain ⟨s, ms, e⟩ := h2
    simp only [Rw.parts] at ms
    rw [List.mem_singleton.mp ms] at e
    simp only [Rw.dep, e]
  | left r =>
    obtain ⟨s, ms, e⟩ := h2
    simp only [Rw.parts] at ms
    rw [List.mem_singleton.mp ms] at e
    simp only [Rw.dep, e]
theorem wfL_mem : ∀ {rs : List Rw} {s : Rw}, Rw.wfL rs = true → s ∈ rs → s.wf = true
  | [], _, _, m => by cases m
  | r :: rs, s, h, m => by
    simp only [Rw.wfL, Bool.and_eq_true] at h
    rcases List.mem_cons.mp m with rfl | m
    · exact h.1
    · exact wfL_mem h.2 m
theorem wf_kids {r : Rw} (h : r.wf = true) : ∀ s ∈ r.parts, s.wf = true := fun s ms => by
  cases r with
  | «let» c => cases ms
  | join rs => simp only [Rw.wf, Bool.and_eq_true] at h; exact wfL_mem h.2 ms
  | mix rs => simp only [Rw.wf, Bool.and_eq_true] at h; exact wfL_mem h.2 ms
  | right r => simp only [Rw.parts] at ms; rw [List.mem_singleton.mp ms]; simpa [Rw.wf] using h
  | left r => simp only [Rw.parts] at ms; rw [List.mem_singleton.mp ms]; simpa [Rw.wf] using h
theorem kids_some {r : Rw} (h : r.wf = true) (hs : isStrD r.toD = false) : r.parts ≠ [] := fun e => by
  cases r with
  | «let» c => cases hs
  | join rs => simp only [Rw.parts] at e; subst e; simp [Rw.wf] at h
  | mix rs => simp only [Rw.parts] at e; subst e; simp [Rw.wf] at h
  | right r => cases e
  | left r => cases e
def fs__law_depth (n : Nat) : FSp := fun as Q => ∃ r : Rw, r.dep < n ∧ r.wf = true ∧ r.nodes ≤ 1000000 ∧ as = [.va r.toD] ∧ Q (.va (.int r.dep))
theorem mo__law_depth (n : Nat) : MoF (fs__law_depth n) := fun as Q Q' k ⟨r, h1, hw, h2, h3, h4⟩ => ⟨r, h1, hw, h2, h3, k _ h4⟩
theorem no__law_depth (as : List AV) (Q : RV → Prop) (h : fs__law_depth 0 as Q) : False := by
  obtain ⟨_, z, _⟩ := h
  exact Nat.not_lt_zero _ z
section
variable {P : Program} {w : World} {K : PySem.W.Frag} {mg : Str → Option Value} {base : Heap}
theorem ok__law_depth (T : Top K mg base) : ∀ n : Nat, FnG P w K mg base CX0 (n + 2) T.f__law_depth T.d__law_depth ["_law_row"] (PSp K 1 (fs__law_depth n))
  | 0 => (FnG.no.mono (Nat.zero_le _)).imp fun vs H Q E ⟨S, Oc, as, h1, h2, h3, h4, h5, h6⟩ => (no__law_depth as _ h6).elim
  | n + 1 => by
    have G := ok__law_depth T n
    refine FnG.mono (j := (n + 2) + 1) (fn_data T.F__law_depth sc__law_depth (fun cdv A outer s H E hr => (evb_one (evs_ret (evr_if (evt_tru (evr_is "str" "str" kit_str (ev_nameS 0).bo T.b_isinstance T.b_str boot_isinstance (by decide +kernel)).cl) (ev_int).rv (evr_op od_add ev_int (evr_blt (cd_max rfl) T.b_max (by decide +kernel) (evl_cons ((evc_lc (own := [("_law_one", 1)]) (evr_call (ok__law_parts T) mo__law_parts (hr.mono (by omega)) T.C__law_parts.hm T.C__law_parts.hk T.C__law_parts.hb (eva_cons (ev_name 0) eva_nil)).cl (blkOk_by (N := ["_law_row", "_law_one"]) (sc := defScope s__law_depth) (by decide +kernel)) (fun _ _ _ _ _ => (evg_name 1 sc__law_depth.nd)) (fun _ _ _ _ _ => evi_nil) (fun _ _ _ _ _ => (evr_call G (mo__law_depth n) (hr.mono (by omega)) T.C__law_depth.hm T.C__law_depth.hk T.C__law_depth.hb (eva_cons (ev_name 1) eva_nil)))).rv rfl sc__law_depth.nd).cl evl_nil)).cl))))) (fun as Q hn hq => ?_)) (by omega)
    obtain ⟨r, hd, hw, hz, rfl, q⟩ := hq
    have hno := r.nodes_eq
    have hl := Rw.len_le r.parts
    have kid : ∀ s ∈ r.parts, ∀ A : RV → Prop, A (.va (.int s.dep)) → fs__law_depth n [.va s.toD] A := fun s ms A hA => by
      have h1 := r.dep_parts s ms
      have h2 := Rw.nodes_mem ms
      exact ⟨s, by omega, wf_kids hw s ms, by omega, rfl, hA⟩
    refine wIf_at (isStrD r.toD) (fun Q h => tru_str rfl rfl h) ?_
    cases hs : isStrD r.toD with
    | true =>
      cases r with
      | «let» c => exact q
      | _ => cases hs
    | false =>
      rw [if_neg (by decide)]
      refine ⟨rfl, r, rfl, ⟨rfl, by rw [List.length_map, sizeLine_eq]; omega⟩, lcW_rows Rw.toD (fun s => .int s.dep) r.parts _ (fun s ms A B hA => ⟨rfl, kid s ms (fun z => A z.dat) hA⟩) ?_⟩
      refine ⟨r.parts.map fun s : Rw => ((s.dep : Nat) : Int), by rw [List.map_map]; rfl, by rw [List.length_map]; exact List.length_pos_iff.mpr (kids_some hw hs), fun m hm hy => ?_⟩
      obtain ⟨s, ms, rfl⟩ := List.mem_map.mp hm
      have e := dep_is (m := s.dep) hs (fun u mu => by have := hy _ (List.mem_map.mpr ⟨u, mu, rfl⟩); omega) ⟨s, ms, rfl⟩
      rw [e] at q
      have e2 : (((s.dep + 1 : Nat)) : Int) = 1 + (s.dep : Int) := by omega
      rw [e2] at q
      exact q
end
theorem letS_app (a b : List (Fin 26)) : letS a ++ letS b = letS (a ++ b) := by
  show (⟨(letS a).cps ++ (letS b).cps⟩ : Str) = _
  unfold letS
  simp
theorem join_lets : ∀ ls : List (List (Fin 26)), Txt.join "" (ls.map letS) = letS ls.flatten := fun ls => by
  unfold PySem.Txt.join
  rw [StrLaws.glued_eq_join]
  induction ls with
  | nil => rfl
  | cons a ls ih =>
    cases ls with
    | nil =>
      show letS a = letS (a ++ [])
      rw [List.append_nil]
    | cons b ls =>
      show letS a ++ "" ++ Str.join "" ((b :: ls).map letS) = letS (a ++ (b :: ls).flatten)
      rw [ih, ← letS_app]
      have : letS a ++ ("" : Str) = letS a := by
        show (⟨(letS a).cps ++ #[]⟩ : Str) = _
        simp
      rw [this]
theorem letS_len (a : List (Fin 26)) : (letS a).length = a.length := by
  show ((a.map fun c => 97 + c.val).toArray).size = _
  simp
mutual
theorem ltr_le : ∀ r : Rw, (Rw.ltr r).length ≤ r.nodes
  | .let c => by simp [Rw.ltr, Rw.nodes]
  | .join rs => by have := ltrL_le rs; simp only [Rw.ltr, Rw.nodes]; omega
  | .right r => by have := ltr_le r; simp only [Rw.ltr, Rw.nodes]; omega
  | .left r => by have := ltr_le r; simp only [Rw.ltr, Rw.nodes]; omega
  | .mix rs => by have := ltrL_le rs; simp only [Rw.ltr, Rw.nodes]; omega
theorem ltrL_le : ∀ rs : List Rw, (Rw.ltrL rs).length ≤ Rw.nodesL rs
  | [] => Nat.le_refl _
  | r :: rs => by
    have := ltr_le r
    have := ltrL_le rs
    simp only [Rw.ltrL, Rw.nodesL, List.length_append]; omega
end
theorem ltrL_flat : ∀ rs : List Rw, Rw.ltrL rs = (rs.map Rw.ltr).flatten
  | [] => rfl
  | r :: rs => by simp only [Rw.ltrL, List.map_cons, List.flatten_cons, ltrL_flat rs]
theorem ltr_kids {r : Rw} (hs : isStrD r.toD = false) : Rw.ltr r = (r.parts.map Rw.ltr).flatten := by
  cases r with
  | «let» c => cases hs
  | join rs => simp only [Rw.ltr, Rw.parts, ltrL_flat]
  | mix rs => simp only [Rw.ltr, Rw.parts, ltrL_flat]
  | right r => simp [Rw.ltr, Rw.parts]
  | left r => simp [Rw.ltr, Rw.parts]
theorem sum_lets : ∀ rs : List Rw, (((rs.map Rw.ltr).map letS).map (·.length)).sum ≤ Rw.nodesL rs
  | [] => Nat.le_refl _
  | r :: rs => by
    have := sum_lets rs
    have := ltr_le r
    simp only [List.map_cons, List.sum_cons, letS_len, Rw.nodesL]
    omega
def fs__law_letters (n : Nat) : FSp := fun as Q => ∃ r : Rw, r.dep < n ∧ r.nodes ≤ 1000 ∧ as = [.va r.toD] ∧ Q (.va (.str (letS (Rw.ltr r))))
theorem mo__law_letters (n : Nat) : MoF (fs__law_letters n) := fun as Q Q' k ⟨r, h1, h2, h3, h4⟩ => ⟨r, h1, h2, h3, k _ h4⟩
theorem no__law_letters (as : List AV) (Q : RV → Prop) (h : fs__law_letters 0 as Q) : False := by
  obtain ⟨_, z, _⟩ := h
  exact Nat.not_lt_zero _ z
section
variable {P : Program} {w : World} {K : PySem.W.Frag} {mg : Str → Option Value} {base : Heap}
theorem ok__law_letters (T : Top K mg base) : ∀ n : Nat, FnG P w K mg base CX0 (n + 2) T.f__law_letters T.d__law_letters ["_law_row"] (PSp K 1 (fs__law_letters n))
  | 0 => (FnG.no.mono (Nat.zero_le _)).imp fun vs H Q E ⟨S, Oc, as, h1, h2, h3, h4, h5, h6⟩ => (no__law_letters as _ h6).elim
  | n + 1 => by
    have G := ok__law_letters T n
    refine FnG.mono (j := (n + 2) + 1) (fn_data T.F__law_letters sc__law_letters (fun cdv A outer s H E hr => (evb_cons (evs_ifS (evt_tru (evr_is "str" "str" kit_str (ev_nameS 0).bo T.b_isinstance T.b_str boot_isinstance (by decide +kernel)).cl) (evb_one (evs_retO 0)) evb_nil)
    (evb_one (evs_ret (evr_join ev_str ((evc_lc (own := [("_law_one", 1)]) (evr_call (ok__law_parts T) mo__law_parts (hr.mono (by omega)) T.C__law_parts.hm T.C__law_parts.hk T.C__law_parts.hb (eva_cons (ev_name 0) eva_nil)).cl (blkOk_by (N := ["_law_row", "_law_one"]) (sc := defScope s__law_letters) (by decide +kernel)) (fun _ _ _ _ _ => (evg_name 1 sc__law_letters.nd)) (fun _ _ _ _ _ => evi_nil) (fun _ _ _ _ _ => (evr_call G (mo__law_letters n) (hr.mono (by omega)) T.C__law_letters.hm T.C__law_letters.hk T.C__law_letters.hb (eva_cons (ev_name 1) eva_nil)))).rv rfl sc__law_letters.nd).cl))))) (fun as Q hn hq => ?_)) (by omega)
    obtain ⟨r, hd, hz, rfl, q⟩ := hq
    have hno := r.nodes_eq
    have hl := Rw.len_le r.parts
    have kid : ∀ s ∈ r.parts, ∀ A : RV → Prop, A (.va (.str (letS (Rw.ltr s)))) → fs__law_letters n [.va s.toD] A := fun s ms A hA => by
      have h1 := r.dep_parts s ms
      have h2 := Rw.nodes_mem ms
      exact ⟨s, by omega, by omega, rfl, hA⟩
    refine ifS_at (isStrD r.toD) (fun Q h => tru_str rfl rfl h) ?_
    cases hs : isStrD r.toD with
    | true =>
      cases r with
      | «let» c => exact q
      | _ => cases hs
    | false =>
      rw [if_neg (by decide)]
      refine ⟨rfl, r, rfl, ⟨rfl, by rw [List.length_map, sizeLine_eq]; omega⟩, lcW_rows Rw.toD (fun s => .str (letS (Rw.ltr s))) r.parts _ (fun s ms A B hA => ⟨rfl, kid s ms (fun z => A z.dat) hA⟩) ?_⟩
      refine ⟨(r.parts.map Rw.ltr).map letS, by rw [List.map_map, List.map_map]; rfl, ?_, ?_⟩
      · have := sum_lets r.parts
        unfold joinOk
        rw [List.length_map, List.length_map]
        have e0 : (("" : Str)).length = 0 := rfl
        rw [e0, Nat.mul_zero]
        omega
      · rw [join_lets, ← ltr_kids hs]
        exact q
end
end K02
set_option Elab.async false
set_option linter.all false
set_option maxRecDepth 100000
set_option maxHeartbeats 400000
namespace K02
open PySem PySem.Spec PyProof.Rows L2 DL
variable [Tb]
theorem le_sz {n : Nat} (h : Nat.ble n 1000 = true) : n ≤ sizeLine := by
  have := Nat.le_of_ble_eq_true h
  rw [sizeLine_eq]
  omega
theorem shown_same {x : Str} {K : RV → Prop} (h : K (.va (.bool false))) : rdEq2 true (.str x) (.str x) K := by
  show K (.va (.bool (!decide (x = x))))
  rw [decide_eq_true rfl]
  exact h
theorem bo_l {rd : RD2} {wa wb : WD} {sd : SD} {Q : Bool → Prop} {d : PyData} (ha : ∀ K : PyData → Prop, K d → wa sd K) (h : wb sd fun e => rd d e fun r => match r with | .va (.bool b) => Q b | _ => False) : wBo (w2 rd wa wb) sd Q := ha _ h
theorem gEq_self {xs : List PyData} (g : Good (.list xs)) : gEq false (.list xs) (.list xs) = some (.va (.bool true)) := by
  have hs := g.sh
  have he := g.eq
  show ob (oif (SeqAt.shaped (.list xs) && SeqAt.shaped (.list xs)) (some (PyData.eqv (.list xs) (.list xs)))) _ = _
  rw [hs, he]; rfl
def endL : List PyData := [.int 6, .int 3, .list [.str "a", .str "b"], .list [.str "z"]]
theorem endL_good : Good (.list endL) := (show PW (.list endL) 60 1000 from by
  have h : (pl (.list endL) && (Nat.ble (PyData.list endL).depth 60 && Nat.ble (wt (.list endL)) 1000)) = true := by decide +kernel
  rw [Bool.and_eq_true, Bool.and_eq_true] at h
  exact ⟨h.1, Nat.le_of_ble_eq_true h.2.1, Nat.le_of_ble_eq_true h.2.2⟩).good (by omega) (by omega)
def r0 : Rw := .join [.let 1, .mix [.let 0, .right (.let 1)]]
theorem letT_pw : ∀ c : Fin 26, pl (.str (letT c)) = true ∧ wt (.str (letT c)) ≤ 10 := by decide +kernel
theorem srtL_le (cs : List (Fin 26)) : (srtL cs).length ≤ 26 := by
  have : (srtL cs).length ≤ L26.length := List.length_filter_le _ _
  have e : L26.length = 26 := by decide
  omega
theorem shown_due {r : Rw} (hz : r.nodes ≤ 25) (hd : r.dep ≤ 6) (hl : (Rw.ltr r).length ≤ 25) : okShow (.list [.int r.nodes, .int r.dep, .list ((srtL (Rw.ltr r)).map .str)]) := by
  have p : PW (.list ((srtL (Rw.ltr r)).map PyData.str)) 1 400 := (PW.lst (D := 0) (W := 10) fun d md => by
    obtain ⟨z, mz, rfl⟩ := List.mem_map.mp md
    obtain ⟨c, _, rfl⟩ := List.mem_map.mp (srtL_mem.mp mz)
    exact ⟨(letT_pw c).1, Nat.zero_le _, (letT_pw c).2⟩).mono (by omega) (by rw [List.length_map]; have := srtL_le (Rw.ltr r); omega)
  have q : PW (.list [.int r.nodes, .int r.dep, .list ((srtL (Rw.ltr r)).map .str)]) 2 2000 := (PW.lst (D := 1) (W := 400) fun d md => by
    simp only [List.mem_cons, List.not_mem_nil, or_false] at md
    rcases md with rfl | rfl | rfl
    · exact (PW.nat (k := r.nodes) (by omega)).mono (by omega) (by omega)
    · exact (PW.nat (k := r.dep) (by omega)).mono (by omega) (by omega)
    · exact p).mono (by omega) (by show (400 + 2) * 3 + 3 ≤ 2000; omega)
  exact (q.good (by omega) (by omega)).show_
section
variable {P : Program} {w : World} {K : PySem.W.Frag} {mg : Str → Option Value} {base : Heap}
theorem ok_law (T : Top K mg base) : FnG P w K mg base CX0 14 T.f_law T.d_law ["_law_script"] (spLaw K) := by
  refine fn_body T.F_law sc_law (fun vs H Q E ⟨a, ns, e, _⟩ => by rw [e]; rfl) fun cdv A outer s H vs Q E hr hsp => ?_
  obtain ⟨a, ns, rfl, hS, hlen, tabs, q⟩ := hsp
  have nd := sc_law.nd
  refine ⟨_, (pss_cons (ps_set (i := 1) nd rfl (by first | exact Or.inl rfl | exact Or.inr rfl) (pe_callG (ok__law_open_cells T) (hr.mono (by omega)) (by rfl) T.C__law_open_cells.hm T.C__law_open_cells.hk T.C__law_open_cells.hb pass0 (pa_cons (pv 0) pa_nil)))
    (EvB.ps (X := (cxOf CX0 P w K mg base ["_law_script", "_law_source", "_law_lap", "_law_row", "_law_due", "_law_again", "_law_told"] "law" (defScope s_law) T.f_law cdv A outer s H E).nox) (evb_cons (evs_forR ev_int (evg_name 2 sc_law.nd) (evb_cons (evs_set 3 (evr_call (ok__law_draw_fit_row T) mo__law_draw_fit_row (hr.mono (by omega)) T.C__law_draw_fit_row.hm T.C__law_draw_fit_row.hk T.C__law_draw_fit_row.hb (eva_so 1 (eva_cons (evr_call (ok__law_choice_of T) mo__law_choice_of (hr.mono (by omega)) T.C__law_choice_of.hm T.C__law_choice_of.hk T.C__law_choice_of.hb (eva_so 1 (eva_cons (ev_lst (evl_cons ev_str (evl_cons ev_str (evl_cons ev_str (evl_cons ev_str evl_nil))))).cl eva_nil))).cl eva_nil))) sc_law.nd)
     (evb_cons (evs_set 4 (ev_lst (evl_cons (evr_call (ok__law_size T 8) (mo__law_size 8) (hr.mono (by omega)) T.C__law_size.hm T.C__law_size.hk T.C__law_size.hb (eva_cons (ev_name 3) eva_nil)).cl (evl_cons (evr_call (ok__law_depth T 8) (mo__law_depth 8) (hr.mono (by omega)) T.C__law_depth.hm T.C__law_depth.hk T.C__law_depth.hb (eva_cons (ev_name 3) eva_nil)).cl (evl_cons (evr_sortedSetS (evr_typ (cd_listA rfl) T.b_list (by decide +kernel) (evl_cons (evr_call (ok__law_letters T 8) (mo__law_letters 8) (hr.mono (by omega)) T.C__law_letters.hm T.C__law_letters.hk T.C__law_letters.hb (eva_cons (ev_name 3) eva_nil)).cl evl_nil)).cl rfl T.b_sorted T.b_set).cl evl_nil)))) sc_law.nd)
     (evb_frz 4 (evb_one (evs_forR ev_int (evg_name 5 sc_law.nd) (evb_nest3 6 (evr_call (ok_size_of T) mo_size_of (hr.mono (by omega)) T.C_size_of.hm T.C_size_of.hk T.C_size_of.hb (eva_cons (ev_name 3) eva_nil)) (evr_call (ok_depth_of T) mo_depth_of (hr.mono (by omega)) T.C_depth_of.hm T.C_depth_of.hk T.C_depth_of.hb (eva_cons (ev_name 3) eva_nil)) (evr_call (ok_row_letters T) mo_row_letters (hr.mono (by omega)) T.C_row_letters.hm T.C_row_letters.hk T.C_row_letters.hb (eva_cons (ev_name 3) eva_nil)) (evt_cmp (od_ne2 hr.rm.units) (evr_blt (cd_reprX (hr.mono (by omega))) T.b_repr (by decide +kernel) (evl_cons (ev_nameS 6).bo evl_nil)).cl (evr_blt (cd_reprX (hr.mono (by omega))) T.b_repr (by decide +kernel) (evl_cons (ev_nameS 4).bo evl_nil)).cl) (evb_one (evs_ret (ev_bl).rv)) evb_nil sc_law.nd) rfl T.b_range))))) rfl T.b_range)
    (evb_cons (evs_set 3 (ev_tup (evl_cons ev_str (evl_cons (ev_tup (evl_cons ev_str (evl_cons (ev_tup (evl_cons ev_str (evl_cons (ev_tup (evl_cons ev_str (evl_cons (ev_tup (evl_cons ev_str (evl_cons ev_str evl_nil))).cl evl_nil))).cl evl_nil))).cl evl_nil))).cl evl_nil))) sc_law.nd)
    (evb_one (evs_ret (evr_cmp (od_eq2 hr.rm.units) (ev_lst (evl_cons (evr_call (ok_size_of T) mo_size_of (hr.mono (by omega)) T.C_size_of.hm T.C_size_of.hk T.C_size_of.hb (eva_cons (ev_name 3) eva_nil)).cl (evl_cons (evr_call (ok_depth_of T) mo_depth_of (hr.mono (by omega)) T.C_depth_of.hm T.C_depth_of.hk T.C_depth_of.hb (eva_cons (ev_name 3) eva_nil)).cl (evl_cons (evr_call (ok_row_letters T) mo_row_letters (hr.mono (by omega)) T.C_row_letters.hm T.C_row_letters.hk T.C_row_letters.hb (eva_cons (ev_name 3) eva_nil)).cl (evl_cons (evr_call (ok_row_letters T) mo_row_letters (hr.mono (by omega)) T.C_row_letters.hm T.C_row_letters.hk T.C_row_letters.hb (eva_cons ev_str eva_nil)).cl evl_nil))))).cl (ev_lst (evl_cons ev_int (evl_cons ev_int (evl_cons (ev_lst (evl_cons ev_str (evl_cons ev_str evl_nil))).cl (evl_cons (ev_lst (evl_cons ev_str evl_nil)).cl evl_nil))))).cl))))))).nox, ?_⟩
  refine ⟨_, rfl, a, ns, rfl, hS, hlen, fun H1 d c sm hd hc sa => ?_⟩
  refine ⟨⟨K, H1, d :: c :: Tb.Ts, d :: c :: Tb.Ts, []⟩, [.un, .so, .un, .un, .un, .un, .un], List.replicate 7 none, endE (fun z => z = .va (.bool true)), rfl, ?_, ?_, ?_⟩
  · have no : ∀ (a : Addr), some a ∉ List.replicate 7 (none : Option Addr) := fun a m => by
      have := List.eq_of_mem_replicate m
      cases this
    refine ⟨Ext.refl, ⟨.inr ⟨d, c, rfl, sa⟩, fun P m => by obtain ⟨ps, e, ok⟩ := tabs P m; exact ⟨ps, sm _ _ e, ok⟩⟩, fun _ h => h, fun a m => .inl m, rfl, rfl, fun i s v oa g1 g2 g3 => ?_, fun i j a g1 _ => absurd (List.mem_of_getElem? g1) (no a), fun p m => (by cases m), fun a m => absurd m (no a)⟩
    have e3 : oa = none := List.eq_of_mem_replicate (List.mem_of_getElem? g3)
    subst e3
    match i, g1, g2 with
    | 0, g1, g2 => cases g1; rfl
    | 1, g1, g2 => cases g1; cases g2; exact ⟨rfl, d, c, rfl, rfl⟩
    | 2, g1, g2 => cases g1; rfl
    | 3, g1, g2 => cases g1; rfl
    | 4, g1, g2 => cases g1; rfl
    | 5, g1, g2 => cases g1; rfl
    | 6, g1, g2 => cases g1; rfl
    | n + 7, g1, g2 => cases g1
  · refine ⟨fun sd os σ H' r z => (nomatch (show RV.va .none = RV.va (.bool true) from z)), fun _ _ _ _ _ z => False.elim z, fun _ _ _ _ _ z => False.elim z, fun z v H' x rv e => ?_⟩
    have e : z = .va (.bool true) := e
    subst e
    have rv : Dx _ _ v (.bool true) := rv
    cases rv
    exact q H'
  refine ⟨by decide, forW_inv (fun _ sd => ∃ x2 x3 x4 x5 x6 : SV, sd = [.un, .so, x2, x3, x4, x5, x6]) ?_ ?_ _ _ ⟨_, _, _, _, _, rfl⟩⟩
  · rintro sd ⟨x2, x3, x4, x5, x6, rfl⟩
    have e1 : r0.nodes = 6 := by decide
    have e2 : r0.dep = 3 := by decide
    have e3 : srtL (Rw.ltr r0) = [Str.ofString "a", Str.ofString "b"] := by decide +kernel
    have e4 : srtL (Rw.ltr (.let 25)) = [Str.ofString "z"] := by decide +kernel
    repeat (refine ⟨le_sz rfl, ?_⟩)
    refine ⟨rfl, r0, rfl, by decide, rfl, ?_⟩
    refine ⟨rfl, r0, rfl, by decide, rfl, ?_⟩
    refine ⟨rfl, r0, rfl, by decide, rfl, ?_⟩
    refine ⟨rfl, .let 25, rfl, by decide, rfl, ?_⟩
    rw [e1, e2, e3, e4]
    repeat (refine ⟨le_sz rfl, ?_⟩)
    exact zEq (neg := false) _ _ (.va (.bool true)) (gEq_self (xs := endL) endL_good) _ rfl
  · rintro dd ds sd k hk ⟨x2, x3, x4, x5, x6, rfl⟩
    refine gt_go ?_
    refine ⟨le_sz rfl, rfl, .inl ⟨_, rfl, by decide, by decide, fun x hx => ?_⟩⟩
    obtain ⟨ls, l0, l26, rfl⟩ : ∃ ls : List (Fin 26), 0 < ls.length ∧ ls.length ≤ 26 ∧ x = .str (letS ls) := by
      simp only [List.mem_cons, List.not_mem_nil, or_false] at hx
      rcases hx with rfl | rfl | rfl | rfl
      · exact ⟨[0, 1, 2, 3], by decide, by decide, rfl⟩
      · exact ⟨[25, 24, 23], by decide, by decide, rfl⟩
      · exact ⟨[1, 0], by decide, by decide, rfl⟩
      · exact ⟨[16], by decide, by decide, rfl⟩
    refine ⟨rfl, ls, rfl, l0, l26, fun r hw hd hz => ?_⟩
    refine ⟨rfl, r, by omega, by omega, rfl, ?_⟩
    refine ⟨rfl, r, by omega, hw, by omega, rfl, ?_⟩
    refine ⟨rfl, r, by omega, by omega, rfl, ?_⟩
    have sl : signD (letS (Rw.ltr r)) = ((Rw.ltr r).map letT).map .str := by
      unfold signD letS
      rw [List.map_map, List.map_map]
      rfl
    have lr := ltr_le r
    refine ⟨by rw [letS_len, sizeLine_eq]; omega, ?_⟩
    rw [sl]
    refine ⟨(Rw.ltr r).map letT, rfl, by rw [List.length_map]; omega, fun ys ss nd hm => ?_⟩
    rw [srtL_one ss nd hm]
    refine ⟨le_sz rfl, ?_⟩
    have sk := shown_due hz hd (Nat.le_trans lr hz)
    generalize hD : (PyData.list [.int r.nodes, .int r.dep, .list ((srtL (Rw.ltr r)).map .str)]) = D at sk
    refine ⟨by decide, forW_inv (fun _ sd => ∃ x5 x6 : SV, sd = [.un, .so, .va dd, .va r.toD, .va D, x5, x6]) ?_ ?_ _ _ ⟨x5, x6, by rw [← hD]; rfl⟩⟩
    · rintro sd ⟨x5, x6, rfl⟩
      exact hk _ ⟨_, _, _, _, _, rfl⟩
    · rintro d2 ds2 sd k2 hk2 ⟨x5, x6, rfl⟩
      refine gt_go ?_
      refine ⟨rfl, r, hw, by omega, rfl, ?_⟩
      refine ⟨rfl, r, hw, by omega, rfl, ?_⟩
      refine ⟨rfl, r, hw, by omega, rfl, ?_⟩
      refine ⟨⟨?_, by show 6 < 7; omega⟩, ?_⟩
      · rw [List.length_map]
        have : (srtL (Rw.ltr r)).length ≤ L26.length := List.length_filter_le _ _
        have e : L26.length = 26 := by decide
        omega
      refine bo_l (d := .str D.shown) (fun K h => ?_) ?_
      · refine nameS_then (d := PyData.list [.int r.nodes, .int r.dep, .list ((srtL (Rw.ltr r)).map .str)]) rfl ?_
        rw [hD]
        exact ⟨.inl sk, h⟩
      · refine nameS_then (d := D) rfl ⟨.inl sk, shown_same (x := D.shown) ?_⟩
        exact hk2 _ ⟨_, _, rfl⟩
end
end K02
set_option Elab.async false
set_option linter.all false
set_option maxRecDepth 100000
set_option maxHeartbeats 4000000
namespace K02
open PySem PySem.Spec PyProof.Rows L2 DL
theorem all_mk {l : PySem.W.OpenLaw} {q : Program} {w : World} {K : PySem.W.Frag} {h : Heap} {mg : Str → Option Value} {fa f1 f2 f3 f4 f5 f6 f7 f8 f9 f10 f11 f12 f13 f14 f15 f16 f17 f18 f19 : Addr} (X : K.In h) (G : h.Ns mainGlobals mg) (hfa : mg "law" = some (.ref fa)) (W : OwnT q mg h)
    {od1 an1 od2 an2 od3 an3 od4 an4 od5 an5 od6 an6 od7 an7 od8 an8 od9 an9 od10 an10 od11 an11 od12 an12 od13 an13 od14 an14 od15 an15 od16 an16 od17 an17 od18 an18 od19 an19 : Option Addr} {sl1 sl2 sl3 sl4 sl5 sl6 sl7 sl8 sl9 sl10 sl11 sl12 sl13 sl14 sl15 sl16 sl17 sl18 sl19 : Array (Option Value)} {oc1 kV1 dc1 pm1 ct1 oc2 kV2 dc2 pm2 ct2 oc3 kV3 dc3 pm3 ct3 oc4 kV4 dc4 pm4 ct4 oc5 kV5 dc5 pm5 ct5 oc6 kV6 dc6 pm6 ct6 oc7 kV7 dc7 pm7 ct7 oc8 kV8 dc8 pm8 ct8 oc9 kV9 dc9 pm9 ct9 oc10 kV10 dc10 pm10 ct10 oc11 kV11 dc11 pm11 ct11 oc12 kV12 dc12 pm12 ct12 oc13 kV13 dc13 pm13 ct13 oc14 kV14 dc14 pm14 ct14 oc15 kV15 dc15 pm15 ct15 oc16 kV16 dc16 pm16 ct16 oc17 kV17 dc17 pm17 ct17 oc18 kV18 dc18 pm18 ct18 oc19 kV19 dc19 pm19 ct19 cd1 cd2 cd3 cd4 cd5 cd6 cd7 cd8 cd9 cd10 cd11 cd12 cd13 cd14 cd15 cd16 cd17 cd18 cd19 : Value}
    (a1 : PySem.W.nsIn K mainGlobals "inner_first" = some (some (.ref f1))) (l1 : K.lookup f1 = some ⟨oc1, od1, .func (PySem.W.fnOf "inner_first" "inner_first" (defArgs s_inner_first) (defBody s_inner_first) (defScope s_inner_first) .none kV1 dc1 pm1 an1 cd1 ct1), sl1⟩) (c1 : PySem.W.codeIn K cd1 "inner_first" = true) (k1 : PySem.W.keepIn K (.ref f1) = true)
    (a2 : PySem.W.nsIn K mainGlobals "each_told" = some (some (.ref f2))) (l2 : K.lookup f2 = some ⟨oc2, od2, .func (PySem.W.fnOf "each_told" "each_told" (defArgs s_each_told) (defBody s_each_told) (defScope s_each_told) .none kV2 dc2 pm2 an2 cd2 ct2), sl2⟩) (c2 : PySem.W.codeIn K cd2 "each_told" = true) (k2 : PySem.W.keepIn K (.ref f2) = true)
    (a3 : PySem.W.nsIn K mainGlobals "depth_within" = some (some (.ref f3))) (l3 : K.lookup f3 = some ⟨oc3, od3, .func (PySem.W.fnOf "depth_within" "depth_within" (defArgs s_depth_within) (defBody s_depth_within) (defScope s_depth_within) .none kV3 dc3 pm3 an3 cd3 ct3), sl3⟩) (c3 : PySem.W.codeIn K cd3 "depth_within" = true) (k3 : PySem.W.keepIn K (.ref f3) = true)
    (a4 : PySem.W.nsIn K mainGlobals "_depth_over" = some (some (.ref f4))) (l4 : K.lookup f4 = some ⟨oc4, od4, .func (PySem.W.fnOf "_depth_over" "_depth_over" (defArgs s__depth_over) (defBody s__depth_over) (defScope s__depth_over) .none kV4 dc4 pm4 an4 cd4 ct4), sl4⟩) (c4 : PySem.W.codeIn K cd4 "_depth_over" = true) (k4 : PySem.W.keepIn K (.ref f4) = true)
    (a5 : PySem.W.nsIn K mainGlobals "parts_of" = some (some (.ref f5))) (l5 : K.lookup f5 = some ⟨oc5, od5, .func (PySem.W.fnOf "parts_of" "parts_of" (defArgs s_parts_of) (defBody s_parts_of) (defScope s_parts_of) .none kV5 dc5 pm5 an5 cd5 ct5), sl5⟩) (c5 : PySem.W.codeIn K cd5 "parts_of" = true) (k5 : PySem.W.keepIn K (.ref f5) = true)
    (a6 : PySem.W.nsIn K mainGlobals "size_of" = some (some (.ref f6))) (l6 : K.lookup f6 = some ⟨oc6, od6, .func (PySem.W.fnOf "size_of" "size_of" (defArgs s_size_of) (defBody s_size_of) (defScope s_size_of) .none kV6 dc6 pm6 an6 cd6 ct6), sl6⟩) (c6 : PySem.W.codeIn K cd6 "size_of" = true) (k6 : PySem.W.keepIn K (.ref f6) = true)
    (a7 : PySem.W.nsIn K mainGlobals "depth_of" = some (some (.ref f7))) (l7 : K.lookup f7 = some ⟨oc7, od7, .func (PySem.W.fnOf "depth_of" "depth_of" (defArgs s_depth_of) (defBody s_depth_of) (defScope s_depth_of) .none kV7 dc7 pm7 an7 cd7 ct7), sl7⟩) (c7 : PySem.W.codeIn K cd7 "depth_of" = true) (k7 : PySem.W.keepIn K (.ref f7) = true)
    (a8 : PySem.W.nsIn K mainGlobals "row_letters" = some (some (.ref f8))) (l8 : K.lookup f8 = some ⟨oc8, od8, .func (PySem.W.fnOf "row_letters" "row_letters" (defArgs s_row_letters) (defBody s_row_letters) (defScope s_row_letters) .none kV8 dc8 pm8 an8 cd8 ct8), sl8⟩) (c8 : PySem.W.codeIn K cd8 "row_letters" = true) (k8 : PySem.W.keepIn K (.ref f8) = true)
    (a9 : PySem.W.nsIn K mainGlobals "_law_open_cells" = some (some (.ref f9))) (l9 : K.lookup f9 = some ⟨oc9, od9, .func (PySem.W.fnOf "_law_open_cells" "_law_open_cells" (defArgs s__law_open_cells) (defBody s__law_open_cells) (defScope s__law_open_cells) .none kV9 dc9 pm9 an9 cd9 ct9), sl9⟩) (c9 : PySem.W.codeIn K cd9 "_law_open_cells" = true) (k9 : PySem.W.keepIn K (.ref f9) = true)
    (a10 : PySem.W.nsIn K mainGlobals "_law_pick" = some (some (.ref f10))) (l10 : K.lookup f10 = some ⟨oc10, od10, .func (PySem.W.fnOf "_law_pick" "_law_pick" (defArgs s__law_pick) (defBody s__law_pick) (defScope s__law_pick) .none kV10 dc10 pm10 an10 cd10 ct10), sl10⟩) (c10 : PySem.W.codeIn K cd10 "_law_pick" = true) (k10 : PySem.W.keepIn K (.ref f10) = true)
    (a11 : PySem.W.nsIn K mainGlobals "_law_draw_row" = some (some (.ref f11))) (l11 : K.lookup f11 = some ⟨oc11, od11, .func (PySem.W.fnOf "_law_draw_row" "_law_draw_row" (defArgs s__law_draw_row) (defBody s__law_draw_row) (defScope s__law_draw_row) .none kV11 dc11 pm11 an11 cd11 ct11), sl11⟩) (c11 : PySem.W.codeIn K cd11 "_law_draw_row" = true) (k11 : PySem.W.keepIn K (.ref f11) = true)
    (a12 : PySem.W.nsIn K mainGlobals "_law_choice_of" = some (some (.ref f12))) (l12 : K.lookup f12 = some ⟨oc12, od12, .func (PySem.W.fnOf "_law_choice_of" "_law_choice_of" (defArgs s__law_choice_of) (defBody s__law_choice_of) (defScope s__law_choice_of) .none kV12 dc12 pm12 an12 cd12 ct12), sl12⟩) (c12 : PySem.W.codeIn K cd12 "_law_choice_of" = true) (k12 : PySem.W.keepIn K (.ref f12) = true)
    (a13 : PySem.W.nsIn K mainGlobals "_law_parts" = some (some (.ref f13))) (l13 : K.lookup f13 = some ⟨oc13, od13, .func (PySem.W.fnOf "_law_parts" "_law_parts" (defArgs s__law_parts) (defBody s__law_parts) (defScope s__law_parts) .none kV13 dc13 pm13 an13 cd13 ct13), sl13⟩) (c13 : PySem.W.codeIn K cd13 "_law_parts" = true) (k13 : PySem.W.keepIn K (.ref f13) = true)
    (a14 : PySem.W.nsIn K mainGlobals "_law_size" = some (some (.ref f14))) (l14 : K.lookup f14 = some ⟨oc14, od14, .func (PySem.W.fnOf "_law_size" "_law_size" (defArgs s__law_size) (defBody s__law_size) (defScope s__law_size) .none kV14 dc14 pm14 an14 cd14 ct14), sl14⟩) (c14 : PySem.W.codeIn K cd14 "_law_size" = true) (k14 : PySem.W.keepIn K (.ref f14) = true)
    (a15 : PySem.W.nsIn K mainGlobals "_law_depth" = some (some (.ref f15))) (l15 : K.lookup f15 = some ⟨oc15, od15, .func (PySem.W.fnOf "_law_depth" "_law_depth" (defArgs s__law_depth) (defBody s__law_depth) (defScope s__law_depth) .none kV15 dc15 pm15 an15 cd15 ct15), sl15⟩) (c15 : PySem.W.codeIn K cd15 "_law_depth" = true) (k15 : PySem.W.keepIn K (.ref f15) = true)
    (a16 : PySem.W.nsIn K mainGlobals "_law_letters" = some (some (.ref f16))) (l16 : K.lookup f16 = some ⟨oc16, od16, .func (PySem.W.fnOf "_law_letters" "_law_letters" (defArgs s__law_letters) (defBody s__law_letters) (defScope s__law_letters) .none kV16 dc16 pm16 an16 cd16 ct16), sl16⟩) (c16 : PySem.W.codeIn K cd16 "_law_letters" = true) (k16 : PySem.W.keepIn K (.ref f16) = true)
    (a17 : PySem.W.nsIn K mainGlobals "_law_wrapped" = some (some (.ref f17))) (l17 : K.lookup f17 = some ⟨oc17, od17, .func (PySem.W.fnOf "_law_wrapped" "_law_wrapped" (defArgs s__law_wrapped) (defBody s__law_wrapped) (defScope s__law_wrapped) .none kV17 dc17 pm17 an17 cd17 ct17), sl17⟩) (c17 : PySem.W.codeIn K cd17 "_law_wrapped" = true) (k17 : PySem.W.keepIn K (.ref f17) = true)
    (a18 : PySem.W.nsIn K mainGlobals "_law_draw_fit_row" = some (some (.ref f18))) (l18 : K.lookup f18 = some ⟨oc18, od18, .func (PySem.W.fnOf "_law_draw_fit_row" "_law_draw_fit_row" (defArgs s__law_draw_fit_row) (defBody s__law_draw_fit_row) (defScope s__law_draw_fit_row) .none kV18 dc18 pm18 an18 cd18 ct18), sl18⟩) (c18 : PySem.W.codeIn K cd18 "_law_draw_fit_row" = true) (k18 : PySem.W.keepIn K (.ref f18) = true)
    (a19 : PySem.W.nsIn K mainGlobals "law" = some (some (.ref f19))) (l19 : K.lookup f19 = some ⟨oc19, od19, .func (PySem.W.fnOf "law" "law" (defArgs s_law) (defBody s_law) (defScope s_law) .none kV19 dc19 pm19 an19 cd19 ct19), sl19⟩) (c19 : PySem.W.codeIn K cd19 "law" = true) (k19 : PySem.W.keepIn K (.ref f19) = true)
    (z1 : PySem.W.nsIn K mainGlobals "abs" = some none)
    (z2 : PySem.W.nsIn K mainGlobals "int" = some none)
    (z3 : PySem.W.nsIn K mainGlobals "isinstance" = some none)
    (z4 : PySem.W.nsIn K mainGlobals "len" = some none)
    (z5 : PySem.W.nsIn K mainGlobals "list" = some none)
    (z6 : PySem.W.nsIn K mainGlobals "max" = some none)
    (z7 : PySem.W.nsIn K mainGlobals "range" = some none)
    (z8 : PySem.W.nsIn K mainGlobals "repr" = some none)
    (z9 : PySem.W.nsIn K mainGlobals "set" = some none)
    (z10 : PySem.W.nsIn K mainGlobals "sorted" = some none)
    (z11 : PySem.W.nsIn K mainGlobals "str" = some none)
    (z12 : PySem.W.nsIn K mainGlobals "sum" = some none)
    (z13 : PySem.W.nsIn K mainGlobals "tuple" = some none) :
    ∃ (cs : List (Addr × Addr)) (fd : FuncData), TabsAt K h cs ∧ (∀ (s : Shared) (v : Value), BindsTo s fd ⟨[v], []⟩ [("_law_script", v)]) ∧ ∀ base : Heap, K.In base → base.Ns mainGlobals mg → (∀ p ∈ cs, GxR.TabB base mg p.1 p.2) → FnG l.prog w K mg base CX0 14 fa fd ["_law_script"] (@spLaw ⟨cs.map (·.2)⟩ K) := by
  letI : Tb := ⟨List.map (fun p : Addr × Addr => p.2) ([] : List (Addr × Addr))⟩
  have e := hfa.symm.trans (PySem.W.mg_of X G a19)
  cases e
  have F1 := fun_mk (st := s_inner_first) l1 c1 k1
  have F2 := fun_mk (st := s_each_told) l2 c2 k2
  have F3 := fun_mk (st := s_depth_within) l3 c3 k3
  have F4 := fun_mk (st := s__depth_over) l4 c4 k4
  have F5 := fun_mk (st := s_parts_of) l5 c5 k5
  have F6 := fun_mk (st := s_size_of) l6 c6 k6
  have F7 := fun_mk (st := s_depth_of) l7 c7 k7
  have F8 := fun_mk (st := s_row_letters) l8 c8 k8
  have F9 := fun_mk (st := s__law_open_cells) l9 c9 k9
  have F10 := fun_mk (st := s__law_pick) l10 c10 k10
  have F11 := fun_mk (st := s__law_draw_row) l11 c11 k11
  have F12 := fun_mk (st := s__law_choice_of) l12 c12 k12
  have F13 := fun_mk (st := s__law_parts) l13 c13 k13
  have F14 := fun_mk (st := s__law_size) l14 c14 k14
  have F15 := fun_mk (st := s__law_depth) l15 c15 k15
  have F16 := fun_mk (st := s__law_letters) l16 c16 k16
  have F17 := fun_mk (st := s__law_wrapped) l17 c17 k17
  have F18 := fun_mk (st := s__law_draw_fit_row) l18 c18 k18
  have F19 := fun_mk (st := s_law) l19 c19 k19
  have b1 := F1.binds (ps := ["whole", "parts_of"]) fun _ _ _ _ _ _ us hl => match us, hl with | [_, _], _ => rfl
  have C1 : Cal K mg "inner_first" f1 _ ["whole", "parts_of"] := ⟨PySem.W.mg_of X G a1, k1, b1⟩
  have b2 := F2.binds (ps := ["whole", "parts_of", "tell"]) fun _ _ _ _ _ _ us hl => match us, hl with | [_, _, _], _ => rfl
  have C2 : Cal K mg "each_told" f2 _ ["whole", "parts_of", "tell"] := ⟨PySem.W.mg_of X G a2, k2, b2⟩
  have b3 := F3.binds (ps := ["whole", "parts_of"]) fun _ _ _ _ _ _ us hl => match us, hl with | [_, _], _ => rfl
  have C3 : Cal K mg "depth_within" f3 _ ["whole", "parts_of"] := ⟨PySem.W.mg_of X G a3, k3, b3⟩
  have b4 := F4.binds (ps := ["_part", "depths"]) fun _ _ _ _ _ _ us hl => match us, hl with | [_, _], _ => rfl
  have C4 : Cal K mg "_depth_over" f4 _ ["_part", "depths"] := ⟨PySem.W.mg_of X G a4, k4, b4⟩
  have b5 := F5.binds (ps := ["row"]) fun _ _ _ _ _ _ us hl => match us, hl with | [_], _ => rfl
  have C5 : Cal K mg "parts_of" f5 _ ["row"] := ⟨PySem.W.mg_of X G a5, k5, b5⟩
  have b6 := F6.binds (ps := ["row"]) fun _ _ _ _ _ _ us hl => match us, hl with | [_], _ => rfl
  have C6 : Cal K mg "size_of" f6 _ ["row"] := ⟨PySem.W.mg_of X G a6, k6, b6⟩
  have b7 := F7.binds (ps := ["row"]) fun _ _ _ _ _ _ us hl => match us, hl with | [_], _ => rfl
  have C7 : Cal K mg "depth_of" f7 _ ["row"] := ⟨PySem.W.mg_of X G a7, k7, b7⟩
  have b8 := F8.binds (ps := ["row"]) fun _ _ _ _ _ _ us hl => match us, hl with | [_], _ => rfl
  have C8 : Cal K mg "row_letters" f8 _ ["row"] := ⟨PySem.W.mg_of X G a8, k8, b8⟩
  have b9 := F9.binds (ps := ["_law_script"]) fun _ _ _ _ _ _ us hl => match us, hl with | [_], _ => rfl
  have C9 : Cal K mg "_law_open_cells" f9 _ ["_law_script"] := ⟨PySem.W.mg_of X G a9, k9, b9⟩
  have b10 := F10.binds (ps := ["_law_source", "_law_most"]) fun _ _ _ _ _ _ us hl => match us, hl with | [_, _], _ => rfl
  have C10 : Cal K mg "_law_pick" f10 _ ["_law_source", "_law_most"] := ⟨PySem.W.mg_of X G a10, k10, b10⟩
  have b11 := F11.binds (ps := ["_law_source", "_law_letters_here", "_law_most"]) fun _ _ _ _ _ _ us hl => match us, hl with | [_, _, _], _ => rfl
  have C11 : Cal K mg "_law_draw_row" f11 _ ["_law_source", "_law_letters_here", "_law_most"] := ⟨PySem.W.mg_of X G a11, k11, b11⟩
  have b12 := F12.binds (ps := ["_law_source", "_law_things"]) fun _ _ _ _ _ _ us hl => match us, hl with | [_, _], _ => rfl
  have C12 : Cal K mg "_law_choice_of" f12 _ ["_law_source", "_law_things"] := ⟨PySem.W.mg_of X G a12, k12, b12⟩
  have b13 := F13.binds (ps := ["_law_row"]) fun _ _ _ _ _ _ us hl => match us, hl with | [_], _ => rfl
  have C13 : Cal K mg "_law_parts" f13 _ ["_law_row"] := ⟨PySem.W.mg_of X G a13, k13, b13⟩
  have b14 := F14.binds (ps := ["_law_row"]) fun _ _ _ _ _ _ us hl => match us, hl with | [_], _ => rfl
  have C14 : Cal K mg "_law_size" f14 _ ["_law_row"] := ⟨PySem.W.mg_of X G a14, k14, b14⟩
  have b15 := F15.binds (ps := ["_law_row"]) fun _ _ _ _ _ _ us hl => match us, hl with | [_], _ => rfl
  have C15 : Cal K mg "_law_depth" f15 _ ["_law_row"] := ⟨PySem.W.mg_of X G a15, k15, b15⟩
  have b16 := F16.binds (ps := ["_law_row"]) fun _ _ _ _ _ _ us hl => match us, hl with | [_], _ => rfl
  have C16 : Cal K mg "_law_letters" f16 _ ["_law_row"] := ⟨PySem.W.mg_of X G a16, k16, b16⟩
  have b17 := F17.binds (ps := ["_law_source", "_law_row", "_law_letters_here"]) fun _ _ _ _ _ _ us hl => match us, hl with | [_, _, _], _ => rfl
  have C17 : Cal K mg "_law_wrapped" f17 _ ["_law_source", "_law_row", "_law_letters_here"] := ⟨PySem.W.mg_of X G a17, k17, b17⟩
  have b18 := F18.binds (ps := ["_law_source", "_law_letters_here"]) fun _ _ _ _ _ _ us hl => match us, hl with | [_, _], _ => rfl
  have C18 : Cal K mg "_law_draw_fit_row" f18 _ ["_law_source", "_law_letters_here"] := ⟨PySem.W.mg_of X G a18, k18, b18⟩
  refine ⟨[], PySem.W.fnOf "law" "law" (defArgs s_law) (defBody s_law) (defScope s_law) .none kV19 dc19 pm19 an19 cd19 ct19, ⟨?_, ?_, ?_⟩, fun s v => .of_eq rfl, fun base _ _ TB => ?_⟩
  · exact fun p m => by
      cases m
  · exact fun p m => by
      cases m
  · exact fun p m => by
      cases m
  let T : Top K mg base := { f_inner_first := _, d_inner_first := _, F_inner_first := F1, C_inner_first := C1, f_each_told := _, d_each_told := _, F_each_told := F2, C_each_told := C2, f_depth_within := _, d_depth_within := _, F_depth_within := F3, C_depth_within := C3, f__depth_over := _, d__depth_over := _, F__depth_over := F4, C__depth_over := C4, f_parts_of := _, d_parts_of := _, F_parts_of := F5, C_parts_of := C5, f_size_of := _, d_size_of := _, F_size_of := F6, C_size_of := C6, f_depth_of := _, d_depth_of := _, F_depth_of := F7, C_depth_of := C7, f_row_letters := _, d_row_letters := _, F_row_letters := F8, C_row_letters := C8, f__law_open_cells := _, d__law_open_cells := _, F__law_open_cells := F9, C__law_open_cells := C9, f__law_pick := _, d__law_pick := _, F__law_pick := F10, C__law_pick := C10, f__law_draw_row := _, d__law_draw_row := _, F__law_draw_row := F11, C__law_draw_row := C11, f__law_choice_of := _, d__law_choice_of := _, F__law_choice_of := F12, C__law_choice_of := C12, f__law_parts := _, d__law_parts := _, F__law_parts := F13, C__law_parts := C13, f__law_size := _, d__law_size := _, F__law_size := F14, C__law_size := C14, f__law_depth := _, d__law_depth := _, F__law_depth := F15, C__law_depth := C15, f__law_letters := _, d__law_letters := _, F__law_letters := F16, C__law_letters := C16, f__law_wrapped := _, d__law_wrapped := _, F__law_wrapped := F17, C__law_wrapped := C17, f__law_draw_fit_row := _, d__law_draw_fit_row := _, F__law_draw_fit_row := F18, C__law_draw_fit_row := C18, f_law := _, d_law := _, F_law := F19, b_abs := PySem.W.mg_none_of X G z1, b_int := PySem.W.mg_none_of X G z2, b_isinstance := PySem.W.mg_none_of X G z3, b_len := PySem.W.mg_none_of X G z4, b_list := PySem.W.mg_none_of X G z5, b_max := PySem.W.mg_none_of X G z6, b_range := PySem.W.mg_none_of X G z7, b_repr := PySem.W.mg_none_of X G z8, b_set := PySem.W.mg_none_of X G z9, b_sorted := PySem.W.mg_none_of X G z10, b_str := PySem.W.mg_none_of X G z11, b_sum := PySem.W.mg_none_of X G z12, b_tuple := PySem.W.mg_none_of X G z13 }
  exact ok_law T
theorem walk {l : PySem.W.OpenLaw} {q : Program} {loose : List Str} {XP : (Str → Option Value) → Heap → Prop} {YP : World → Heap → Prop} {d : DefRec} {K : Params → PySem.W.Frag} (hn : l.most = some 63) (hdf : d.params.defaults = [])
    (hY : ∀ (w : World) (h : Heap), YP w h → (K w.params).In h)
    (F : ∀ (w : World) (mg : Str → Option Value) (fa : Addr) (h : Heap), (K w.params).In h → h.Ns mainGlobals mg → mg d.name = some (.ref fa) → OwnT q mg h →
      ∃ (cs : List (Addr × Addr)) (fd : FuncData), TabsAt (K w.params) h cs ∧ (∀ (s : Shared) (u : Value), BindsTo s fd ⟨[u], []⟩ [("_law_script", u)]) ∧
        ∀ base : Heap, (K w.params).In base → base.Ns mainGlobals mg → (∀ p ∈ cs, GxR.TabB base mg p.1 p.2) → FnG l.prog w (K w.params) mg base CX0 14 fa fd ["_law_script"] (@spLaw ⟨cs.map (·.2)⟩ (K w.params))) :
    PySem.W.WalkO q loose XP YP l.row.toRowW d [] (fun f vs => PySem.call f vs) :=
  walkT (k := 14) hn hdf ⟨⟨rfl, by decide, by decide⟩, rfl⟩ hY F
end K02
open PySem PySem.W PyProof.Rows
set_option maxRecDepth 100000 in
set_option maxHeartbeats 0 in
theorem PySem.Challenge.cw_everrows_k02_sizes_depths_letters_holds : PySem.Challenge.rw_everrows_k02_sizes_depths_letters.Holds := by
  w_on; o_law; k_head; (case hw => w_witness2)
  k_fill
  refine K02.walk (l := PySem.Challenge.rw_everrows_k02_sizes_depths_letters) rfl rfl (fun w h Y => PySem.W.kIn_of Y) ?F
  case F =>
    intro w mg fa h KX G hmg W
    refine' K02.all_mk KX G hmg W ?a1 ?l1 ?c1 ?k1 ?a2 ?l2 ?c2 ?k2 ?a3 ?l3 ?c3 ?k3 ?a4 ?l4 ?c4 ?k4 ?a5 ?l5 ?c5 ?k5 ?a6 ?l6 ?c6 ?k6 ?a7 ?l7 ?c7 ?k7 ?a8 ?l8 ?c8 ?k8 ?a9 ?l9 ?c9 ?k9 ?a10 ?l10 ?c10 ?k10 ?a11 ?l11 ?c11 ?k11 ?a12 ?l12 ?c12 ?k12 ?a13 ?l13 ?c13 ?k13 ?a14 ?l14 ?c14 ?k14 ?a15 ?l15 ?c15 ?k15 ?a16 ?l16 ?c16 ?k16 ?a17 ?l17 ?c17 ?k17 ?a18 ?l18 ?c18 ?k18 ?a19 ?l19 ?c19 ?k19 ?z1 ?z2 ?z3 ?z4 ?z5 ?z6 ?z7 ?z8 ?z9 ?z10 ?z11 ?z12 ?z13 
    (case a1 => k_is); (case l1 => k_is); (case c1 => k_is); (case k1 => k_is)
    (case a2 => k_is); (case l2 => k_is); (case c2 => k_is); (case k2 => k_is)
    (case a3 => k_is); (case l3 => k_is); (case c3 => k_is); (case k3 => k_is)
    (case a4 => k_is); (case l4 => k_is); (case c4 => k_is); (case k4 => k_is)
    (case a5 => k_is); (case l5 => k_is); (case c5 => k_is); (case k5 => k_is)
    (case a6 => k_is); (case l6 => k_is); (case c6 => k_is); (case k6 => k_is)
    (case a7 => k_is); (case l7 => k_is); (case c7 => k_is); (case k7 => k_is)
    (case a8 => k_is); (case l8 => k_is); (case c8 => k_is); (case k8 => k_is)
    (case a9 => k_is); (case l9 => k_is); (case c9 => k_is); (case k9 => k_is)
    (case a10 => k_is); (case l10 => k_is); (case c10 => k_is); (case k10 => k_is)
    (case a11 => k_is); (case l11 => k_is); (case c11 => k_is); (case k11 => k_is)
    (case a12 => k_is); (case l12 => k_is); (case c12 => k_is); (case k12 => k_is)
    (case a13 => k_is); (case l13 => k_is); (case c13 => k_is); (case k13 => k_is)
    (case a14 => k_is); (case l14 => k_is); (case c14 => k_is); (case k14 => k_is)
    (case a15 => k_is); (case l15 => k_is); (case c15 => k_is); (case k15 => k_is)
    (case a16 => k_is); (case l16 => k_is); (case c16 => k_is); (case k16 => k_is)
    (case a17 => k_is); (case l17 => k_is); (case c17 => k_is); (case k17 => k_is)
    (case a18 => k_is); (case l18 => k_is); (case c18 => k_is); (case k18 => k_is)
    (case a19 => k_is); (case l19 => k_is); (case c19 => k_is); (case k19 => k_is)
    (case z1 => k_is); (case z2 => k_is); (case z3 => k_is); (case z4 => k_is); (case z5 => k_is); (case z6 => k_is); (case z7 => k_is); (case z8 => k_is); (case z9 => k_is); (case z10 => k_is); (case z11 => k_is); (case z12 => k_is); (case z13 => k_is)
