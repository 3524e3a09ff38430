import PyProof.Rows.All
import HandS.ForMost
import HandS.IsInst
import HandS.Style
import HandS.TupAny
import HandS.TupLe
import HandS.Evl
import HandS.Walk
import PySem.Challenge.RW_bundlekinds_k01_valid_names
set_option Elab.async false
set_option linter.all false
set_option maxRecDepth 100000
namespace Lw
open PySem PySem.Spec PyProof.Rows L2
/-! ### a list's item read for an augmented store -/
theorem pget_list {X : Cx} : PGet X (rIxL X.K) := by
  intro pins s σ H x y v u Q I rx ry h
  obtain ⟨p, xs, i, z, rfl, rfl, hq, he, q⟩ := h
  cases rx
  obtain ⟨t, rfl⟩ := ry
  obtain ⟨its, r, pl, hz⟩ := I.list hq
  obtain ⟨j, h1, h2, h3, h4, h5⟩ := atI_get he
  obtain ⟨w, ew, rw'⟩ := r.get h2
  have hl := r.length
  have hn := line63
  have fin : EP X pins σ Q w s := ⟨z, H, I, rw', q⟩
  by_cases h0 : 0 ≤ i
  · have hj : i.toNat = j := by
      rw [seqIndex_of h0 h5] at h1
      exact Option.some.inj h1
    exact wpAny_getItem_list pl.isList h0 (by omega) (by rw [hj]; simpa using ew) fin
  · have hj : (i + (its.toArray.size : Int)).toNat = j := by
      rw [seqIndex_neg (by omega) h4] at h1
      rw [List.size_toArray, ← hl]
      exact Option.some.inj h1
    exact wpAny_getItem_list_neg pl.isList (by omega) (by rw [List.size_toArray] <;> omega) (by omega) (by rw [hj]; simpa using ew) fin

/-- a constant of the module -/
theorem pe_gv {X : Cx} {x : Str} {pos : Pos} {v : V} (hg : Gl X x) (h : ∃ u, X.mg x = some u ∧ RelV v u) (hd : (x == ("__debug__" : Str)) = false := by decide) : PE X (.Name x pos) (tC v) := by
  obtain ⟨u, h1, h2⟩ := h
  exact pe_glob hg h1 h2 hd
/-! ### data that may be compared -/
def GoodD (n : Nat) (d : PyData) : Prop := d.canLay0 = true ∧ d.depth ≤ n
theorem GoodD.mono {n m : Nat} {d : PyData} (h : GoodD n d) (k : n ≤ m) : GoodD m d := ⟨h.1, Nat.le_trans h.2 k⟩
theorem GoodD.shaped {n : Nat} {d : PyData} (h : GoodD n d) (k : n ≤ 64) : SeqAt.shaped d = true := by
  unfold SeqAt.shaped
  rw [h.1, decide_eq_true (Nat.le_trans h.2 k)]
  rfl
theorem goodAll {n : Nat} : ∀ {ds : List PyData}, (∀ d ∈ ds, GoodD n d) → PyData.canLayAll0 ds = true ∧ PyData.depthAll ds ≤ n
  | [], _ => ⟨rfl, by simp [PyData.depthAll]⟩
  | d :: r, h => by
    obtain ⟨h1, h2⟩ := h d (List.mem_cons_self)
    obtain ⟨r1, r2⟩ := goodAll (ds := r) fun e he => h e (List.mem_cons_of_mem _ he)
    constructor
    · simp [PyData.canLayAll0, h1, r1]
    · simp only [PyData.depthAll]
      omega
theorem good_list {n : Nat} {ds : List PyData} (h : ∀ d ∈ ds, GoodD n d) : GoodD (n + 1) (.list ds) := by
  obtain ⟨a, b⟩ := goodAll h
  exact ⟨by simp [PyData.canLay0, a], by simp only [PyData.depth]; omega⟩
theorem good_tuple {n : Nat} {ds : List PyData} (h : ∀ d ∈ ds, GoodD n d) : GoodD (n + 1) (.tuple ds) := by
  obtain ⟨a, b⟩ := goodAll h
  exact ⟨by simp [PyData.canLay0, a], by simp only [PyData.depth]; omega⟩
theorem good_int {n : Nat} (i : Int) : GoodD n (.int i) := ⟨rfl, by simp [PyData.depth]⟩
theorem good_bool {n : Nat} (i : Bool) : GoodD n (.bool i) := ⟨rfl, by simp [PyData.depth]⟩
theorem good_none {n : Nat} : GoodD n .none := ⟨rfl, by simp [PyData.depth]⟩
/-- a text whose signs are code points -/
def SOk (z : Str) : Prop := ∀ c ∈ z.cps.toList, c < 0x110000
theorem good_str {n : Nat} {z : Str} (h : SOk z) : GoodD n (.str z) := by
  refine ⟨?_, by simp [PyData.depth]⟩
  simp only [PyData.canLay0]
  unfold PyData.strOk
  rw [← Array.all_toList, List.all_eq_true]
  intro c hc
  exact decide_eq_true (h c hc)
theorem dp_map {K : PySem.W.Frag} {H : Hp} {α : Type} {f : α → V} {g : α → PyData} : ∀ {xs : List α}, (∀ x ∈ xs, Dp K H (f x) (g x)) → DpAll K H (xs.map f) (xs.map g)
  | [], _ => .nil
  | x :: r, h => .cons (h x List.mem_cons_self) (dp_map fun y hy => h y (List.mem_cons_of_mem _ hy))
theorem dp_ints {K : PySem.W.Frag} {H : Hp} {a : Addr} {ns : List Int} (h : SqL K H a (ns.map V.int)) : Dp K H (.ref a) (.list (ns.map PyData.int)) := .lst h (dp_map fun x _ => .int x)
theorem dp_strs {K : PySem.W.Frag} {H : Hp} {a : Addr} {ns : List Str} (h : SqL K H a (ns.map V.str)) : Dp K H (.ref a) (.list (ns.map PyData.str)) := .lst h (dp_map fun x _ => .str x)
theorem dp_empty {K : PySem.W.Frag} {H : Hp} {a : Addr} (h : SqL K H a []) : Dp K H (.ref a) (.list []) := .lst h .nil
theorem dp_strsT {K : PySem.W.Frag} {H : Hp} {a : Addr} {ns : List Str} (h : SqT K H a (ns.map V.str)) : Dp K H (.ref a) (.tuple (ns.map PyData.str)) := .tup h (dp_map fun x _ => .str x)
theorem sh_ints (ns : List Int) : SeqAt.shaped (.list (ns.map PyData.int)) = true := PySem.W.ke_shaped_ints ns
theorem sh_empty : SeqAt.shaped (.list []) = true := PySem.W.ke_shaped_ints []
theorem good_strs {ns : List Str} (h : ∀ z ∈ ns, SOk z) : GoodD 1 (.list (ns.map PyData.str)) := good_list (n := 0) fun d hd => by
  obtain ⟨z, hz, rfl⟩ := List.mem_map.mp hd
  exact good_str (h z hz)
theorem good_strsT {ns : List Str} (h : ∀ z ∈ ns, SOk z) : GoodD 1 (.tuple (ns.map PyData.str)) := good_tuple (n := 0) fun d hd => by
  obtain ⟨z, hz, rfl⟩ := List.mem_map.mp hd
  exact good_str (h z hz)
theorem eqv_nil_map {α : Type} (f : α → PyData) (xs : List α) : PyData.eqv (.list (xs.map f)) (.list []) = decide (xs = []) := by
  cases xs with
  | nil => simp [PyData.eqv, PyData.eqvAll]
  | cons x r => simp [PyData.eqv, PyData.eqvAll]
theorem eqvAll_strs : ∀ xs ys : List Str, PyData.eqvAll (xs.map PyData.str) (ys.map PyData.str) = decide (xs = ys)
  | [], [] => by simp [PyData.eqvAll]
  | [], _ :: _ => by simp [PyData.eqvAll]
  | _ :: _, [] => by simp [PyData.eqvAll]
  | x :: r, y :: t => by
    simp only [List.map_cons, PyData.eqvAll, PyData.eqv, eqvAll_strs r t]
    by_cases h : x = y <;> by_cases h' : r = t <;> simp [h, h']
theorem eqv_strs (xs ys : List Str) : PyData.eqv (.list (xs.map PyData.str)) (.list (ys.map PyData.str)) = decide (xs = ys) := by
  simp only [PyData.eqv, eqvAll_strs]
theorem eqv_strsT (xs ys : List Str) : PyData.eqv (.tuple (xs.map PyData.str)) (.tuple (ys.map PyData.str)) = decide (xs = ys) := by
  simp only [PyData.eqv, eqvAll_strs]

/-! ### the drawing state: at st the list of the big cells (at q), the cells (at r), the counter -/
structure DX (H : Hp) (st q r : Addr) (bs cs : List Int) (c : Int) : Prop where
  st' : H st = some (.lst [.ref q, .ref r, .int c])
  q' : H q = some (.lst (bs.map V.int))
  r' : H r = some (.lst (cs.map V.int))
  qr : q ≠ r
  qs : q ≠ st
  rs : r ≠ st
theorem DX.new {H : Hp} {st q r p : Addr} {bs cs : List Int} {c : Int} {o : HO} (D : DX H st q r bs cs c) (h : H p = none) : DX (upd H p o) st q r bs cs c :=
  ⟨(upd_ne (ne_of_none D.st' h)).trans D.st', (upd_ne (ne_of_none D.q' h)).trans D.q', (upd_ne (ne_of_none D.r' h)).trans D.r', D.qr, D.qs, D.rs⟩
theorem DX.count {H : Hp} {st q r : Addr} {bs cs : List Int} {c d : Int} (D : DX H st q r bs cs c) : DX (upd H st (.lst [.ref q, .ref r, .int d])) st q r bs cs d :=
  ⟨upd_same, (upd_ne D.qs).trans D.q', (upd_ne D.rs).trans D.r', D.qr, D.qs, D.rs⟩
theorem DX.swap {H : Hp} {st q r p : Addr} {bs cs ds : List Int} {c : Int} (D : DX H st q r bs cs c) (h : H p = none) : DX (upd (upd H p (.lst (ds.map V.int))) st (.lst [.ref p, .ref r, .int c])) st p r ds cs c := by
  have h1 := ne_of_none D.st' h
  have h2 := ne_of_none D.r' h
  exact ⟨upd_same, (upd_ne h1.symm).trans upd_same, (upd_ne D.rs).trans ((upd_ne h2).trans D.r'), h2.symm, h1.symm, D.rs⟩
theorem DX.own {H : Hp} {st q r : Addr} {bs cs ds : List Int} {c : Int} (D : DX H st q r bs cs c) : DX (upd H q (.lst (ds.map V.int))) st q r ds cs c :=
  ⟨(upd_ne D.qs.symm).trans D.st', upd_same, (upd_ne D.qr.symm).trans D.r', D.qr, D.qs, D.rs⟩
/-- .. its counter at most n -/
def DS (H : Hp) (st : Addr) (n : Nat) : Prop := ∃ (q r : Addr) (bs cs : List Int) (c : Int), DX H st q r bs cs c ∧ (∀ b ∈ bs, 0 ≤ b) ∧ cs ≠ [] ∧ 0 ≤ c ∧ c ≤ n
/-- b holds o, apart from the drawing state -/
def Ap (H : Hp) (st b : Addr) (o : HO) : Prop := H b = some o ∧ b ≠ st ∧ ∀ l, H st = some (.lst l) → V.ref b ∉ l
theorem ap_iff {H : Hp} {st q r b : Addr} {bs cs : List Int} {c : Int} {o : HO} (D : DX H st q r bs cs c) : Ap H st b o ↔ (H b = some o ∧ b ≠ st ∧ b ≠ q ∧ b ≠ r) := by
  constructor
  · rintro ⟨e, n, h⟩
    have := h _ D.st'
    simp only [List.mem_cons, V.ref.injEq, List.not_mem_nil, or_false, not_or] at this
    exact ⟨e, n, this.1, this.2.1⟩
  · rintro ⟨e, n, h1, h2⟩
    refine ⟨e, n, fun l hl => ?_⟩
    rw [D.st'] at hl
    cases hl
    simp only [List.mem_cons, V.ref.injEq, List.not_mem_nil, or_false, not_or]
    exact ⟨h1, h2, fun z => nomatch z⟩
/-- what stands apart from the drawing state stays -/
def Kp (st : Addr) (H H' : Hp) : Prop := ∀ b o, Ap H st b o → Ap H' st b o
theorem Kp.refl (st : Addr) (H : Hp) : Kp st H H := fun _ _ h => h
theorem Kp.trans {st : Addr} {H H1 H2 : Hp} (a : Kp st H H1) (b : Kp st H1 H2) : Kp st H H2 := fun c o h => b c o (a c o h)
theorem Kp.dx {st q r q' r' : Addr} {H H' : Hp} {bs cs bs' cs' : List Int} {c c' : Int} (D : DX H st q r bs cs c) (D' : DX H' st q' r' bs' cs' c') (h : ∀ b o, H b = some o → b ≠ st → b ≠ q → b ≠ r → H' b = some o ∧ b ≠ q' ∧ b ≠ r') : Kp st H H' := fun b o a => by
  obtain ⟨e, n, n1, n2⟩ := (ap_iff D).mp a
  obtain ⟨e', m1, m2⟩ := h b o e n n1 n2
  exact (ap_iff D').mpr ⟨e', n, m1, m2⟩
theorem DX.newK {H : Hp} {st q r p : Addr} {bs cs : List Int} {c : Int} {o : HO} (D : DX H st q r bs cs c) (h : H p = none) : Kp st H (upd H p o) :=
  Kp.dx D (D.new h) fun b u e _ n1 n2 => ⟨(upd_ne (ne_of_none e h)).trans e, n1, n2⟩
theorem DX.ownK {H : Hp} {st q r : Addr} {bs cs ds : List Int} {c : Int} (D : DX H st q r bs cs c) : Kp st H (upd H q (.lst (ds.map V.int))) :=
  Kp.dx D D.own fun b u e _ n1 n2 => ⟨(upd_ne n1).trans e, n1, n2⟩
theorem DX.countK {H : Hp} {st q r : Addr} {bs cs : List Int} {c d : Int} (D : DX H st q r bs cs c) : Kp st H (upd H st (.lst [.ref q, .ref r, .int d])) :=
  Kp.dx D D.count fun b u e n n1 n2 => ⟨(upd_ne n).trans e, n1, n2⟩
theorem DX.swapK {H : Hp} {st q r p : Addr} {bs cs ds : List Int} {c : Int} (D : DX H st q r bs cs c) (h : H p = none) : Kp st H (upd (upd H p (.lst (ds.map V.int))) st (.lst [.ref p, .ref r, .int c])) :=
  Kp.dx D (D.swap h) fun b u e n n1 n2 => ⟨(upd_ne n).trans ((upd_ne (ne_of_none e h)).trans e), ne_of_none e h, n2⟩
theorem DS.new {H : Hp} {st p : Addr} {n : Nat} {o : HO} (D : DS H st n) (h : H p = none) : DS (upd H p o) st n := by
  obtain ⟨q, r, bs, cs, c, d, h1, h2, h3, h4⟩ := D
  exact ⟨q, r, bs, cs, c, d.new h, h1, h2, h3, h4⟩
theorem DS.newK {H : Hp} {st p : Addr} {n : Nat} {o : HO} (D : DS H st n) (h : H p = none) : Kp st H (upd H p o) := by
  obtain ⟨q, r, bs, cs, c, d, h1, h2, h3, h4⟩ := D
  exact d.newK h
theorem DS.mono {H : Hp} {st : Addr} {n m : Nat} (D : DS H st n) (h : n ≤ m) : DS H st m := by
  obtain ⟨q, r, bs, cs, c, d, h1, h2, h3, h4⟩ := D
  exact ⟨q, r, bs, cs, c, d, h1, h2, h3, by omega⟩
/-- a new object stands apart -/
theorem DS.fresh {H : Hp} {st p : Addr} {n : Nat} {o : HO} (D : DS H st n) (h : H p = none) : Ap (upd H p o) st p o := by
  obtain ⟨q, r, bs, cs, c, d, h1, h2, h3, h4⟩ := D
  exact (ap_iff (d.new h)).mpr ⟨upd_same, (ne_of_none d.st' h).symm, (ne_of_none d.q' h).symm, (ne_of_none d.r' h).symm⟩
/-- an object that stands apart is stored to -/
theorem DS.put {H : Hp} {st b : Addr} {n : Nat} {o u : HO} (D : DS H st n) (a : Ap H st b o) : DS (upd H b u) st n := by
  obtain ⟨q, r, bs, cs, c, d, h1, h2, h3, h4⟩ := D
  obtain ⟨e, n1, n2, n3⟩ := (ap_iff d).mp a
  exact ⟨q, r, bs, cs, c, ⟨(upd_ne n1.symm).trans d.st', (upd_ne n2.symm).trans d.q', (upd_ne n3.symm).trans d.r', d.qr, d.qs, d.rs⟩, h1, h2, h3, h4⟩
theorem DS.putA {H : Hp} {st b : Addr} {n : Nat} {o u : HO} (D : DS H st n) (a : Ap H st b o) : Ap (upd H b u) st b u := by
  obtain ⟨q, r, bs, cs, c, d, h1, h2, h3, h4⟩ := D
  obtain ⟨e, n1, n2, n3⟩ := (ap_iff d).mp a
  have d' : DX (upd H b u) st q r bs cs c := ⟨(upd_ne n1.symm).trans d.st', (upd_ne n2.symm).trans d.q', (upd_ne n3.symm).trans d.r', d.qr, d.qs, d.rs⟩
  exact (ap_iff d').mpr ⟨upd_same, n1, n2, n3⟩
theorem Ap.put {H : Hp} {st b p : Addr} {n : Nat} {o u v : HO} (D : DS H st n) (a : Ap H st b o) (h : Ap H st p v) (ne : p ≠ b) : Ap (upd H b u) st p v := by
  obtain ⟨q, r, bs, cs, c, d, h1, h2, h3, h4⟩ := D
  obtain ⟨e, n1, n2, n3⟩ := (ap_iff d).mp a
  obtain ⟨f, m1, m2, m3⟩ := (ap_iff d).mp h
  have d' : DX (upd H b u) st q r bs cs c := ⟨(upd_ne n1.symm).trans d.st', (upd_ne n2.symm).trans d.q', (upd_ne n3.symm).trans d.r', d.qr, d.qs, d.rs⟩
  exact (ap_iff d').mpr ⟨(upd_ne ne).trans f, m1, m2, m3⟩
end Lw

namespace Lw
open PySem PySem.Spec PyProof.Rows L2 Evl
section
variable {K : PySem.W.Frag} {σ : L2.St} {H H' : Hp} {ta tb tc te tl : TE} {t u : TT} {x y z v : V} {r r' : R2}
theorem ev_chain {a b : Bool} (ha : Ev ta σ H x) (hb : Ev tb σ H y) (h1 : RV r x y H (.bl a)) (hc : a = true → Ev tc σ H z) (h2 : a = true → RV r' y z H (.bl b)) : Ev (tChain r r' ta tb tc) σ H (.bl (a && b)) := fun H1 e Q q =>
  ha H1 e _ fun H2 e2 => hb H2 (e.trans e2) _ fun H3 e3 => h1 H3 ((e.trans e2).trans e3) _ fun H4 e4 => ⟨a, rfl, by
    cases a with
    | true =>
      exact hc rfl H4 (((e.trans e2).trans e3).trans e4) _ fun H5 e5 => h2 rfl H5 ((((e.trans e2).trans e3).trans e4).trans e5) Q fun H6 e6 => q H6 ((((e2.trans e3).trans e4).trans e5).trans e6)
    | false => exact q H4 ((e2.trans e3).trans e4)⟩
theorem rc_lenStr {z : Str} (h : z.length ≤ sizeLine) : RC (fun xs H Q => ∃ z, xs = [.str z] ∧ z.length ≤ sizeLine ∧ Q (.int z.length) H) [.str z] H (.int z.length) := fun H1 _ _ q => ⟨z, rfl, h, q H1 (Ex.refl H1)⟩
theorem rc_lenL {p : Addr} {xs : List V} (h : SqL K H p xs) : RC (fun xs H Q => ∃ p ys, xs = [.ref p] ∧ (SqL K H p ys ∨ SqT K H p ys) ∧ Q (.int ys.length) H) [.ref p] H (.int (xs.length : Int)) := fun H1 e _ q => ⟨p, xs, rfl, .inl (ex_l e h), q H1 (Ex.refl H1)⟩
theorem rc_lenT {p : Addr} {xs : List V} (h : SqT K H p xs) : RC (fun xs H Q => ∃ p ys, xs = [.ref p] ∧ (SqL K H p ys ∨ SqT K H p ys) ∧ Q (.int ys.length) H) [.ref p] H (.int (xs.length : Int)) := fun H1 e _ q => ⟨p, xs, rfl, .inr (ex_t e h), q H1 (Ex.refl H1)⟩
theorem rc_int {i : Int} : RC (fun xs H Q => (∃ i, xs = [.int i] ∧ Q (.int i) H) ∨ ∃ k, xs = [.bl k] ∧ Q (.int (if k then 1 else 0)) H) [.int i] H (.int i) := fun H1 _ _ q => .inl ⟨i, rfl, q H1 (Ex.refl H1)⟩
theorem rc_intB {k : Bool} : RC (fun xs H Q => (∃ i, xs = [.int i] ∧ Q (.int i) H) ∨ ∃ k, xs = [.bl k] ∧ Q (.int (if k then 1 else 0)) H) [.bl k] H (.int (if k then 1 else 0)) := fun H1 _ _ q => .inr ⟨k, rfl, q H1 (Ex.refl H1)⟩
theorem rv_sign {c : Nat} {z : Str} : RV (fun x y H Q => ∃ (c : Nat) (z : Str), x = .str ⟨#[c]⟩ ∧ y = .str z ∧ Q (.bl (decide (c ∈ z.cps.toList))) H) (.str ⟨#[c]⟩) (.str z) H (.bl (decide (c ∈ z.cps.toList))) := fun H1 _ _ q => ⟨c, z, rfl, rfl, q H1 (Ex.refl H1)⟩
theorem rv_nsign {c : Nat} {z : Str} : RV (fun x y H Q => ∃ (c : Nat) (z : Str), x = .str ⟨#[c]⟩ ∧ y = .str z ∧ Q (.bl (!decide (c ∈ z.cps.toList))) H) (.str ⟨#[c]⟩) (.str z) H (.bl (!decide (c ∈ z.cps.toList))) := fun H1 _ _ q => ⟨c, z, rfl, rfl, q H1 (Ex.refl H1)⟩
theorem rv_addS {a b : Str} (h : a.length + b.length ≤ sizeLine) : RV (fun x y H Q => ∃ i j, x = .str i ∧ y = .str j ∧ i.length + j.length ≤ sizeLine ∧ Q (.str (i ++ j)) H) (.str a) (.str b) H (.str (a ++ b)) := fun H1 _ _ q => ⟨a, b, rfl, rfl, h, q H1 (Ex.refl H1)⟩
/-- a call one of whose arguments is a new list -/
theorem ev_cbL {r : List V → Hp → VK → Prop} {xs : List V} (h : EvL ta σ H xs) (hr : ∀ p H1, H1 p = some (.lst xs) → Ex H H1 → RC r [.ref p] H1 z) : Ev (tCB r (tCons ta tNil)) σ H z := fun H1 e Q q =>
  h H1 e _ fun p H2 _ e2 hp => hr p H2 hp (e.trans e2) H2 (Ex.refl H2) Q fun H3 e3 => q H3 (e2.trans e3)
theorem rc_all {p : Addr} {bs : List Bool} (h : SqL K H p (bs.map V.bl)) : RC (rAll K) [.ref p] H (.bl (bs.all id)) := fun H1 e _ q => ⟨p, bs, rfl, ex_l e h, q H1 (Ex.refl H1)⟩
theorem rv_eqD {d e : PyData} (hx : ∀ H1, Ex H H1 → Dp K H1 x d) (hy : ∀ H1, Ex H H1 → Dp K H1 y e) (sd : SeqAt.shaped d = true) (se : SeqAt.shaped e = true) : RV (rEqD K) x y H (.bl (PyData.eqv d e)) := fun H1 k _ q => ⟨d, e, hx H1 k, hy H1 k, sd, se, q H1 (Ex.refl H1)⟩
theorem rv_neD {d e : PyData} (hx : ∀ H1, Ex H H1 → Dp K H1 x d) (hy : ∀ H1, Ex H H1 → Dp K H1 y e) (sd : SeqAt.shaped d = true) (se : SeqAt.shaped e = true) : RV (rNeD K) x y H (.bl (!PyData.eqv d e)) := fun H1 k _ q => ⟨d, e, hx H1 k, hy H1 k, sd, se, q H1 (Ex.refl H1)⟩
end
/-! ### comprehensions by lists -/
theorem given_list {α : Type} (p : α → Bool) (g : α → V) (xs : List α) : given xs.length (fun i => (xs[i]?.map p).getD false) (fun i => (xs[i]?.map g).getD .non) = (xs.filter p).map g := by
  have key : ∀ n, n ≤ xs.length → given n (fun i => (xs[i]?.map p).getD false) (fun i => (xs[i]?.map g).getD .non) = ((xs.take n).filter p).map g := by
    intro n
    induction n with
    | zero => intro _; rfl
    | succ n ih =>
      intro hn
      have hx : xs[n]? = some xs[n] := List.getElem?_eq_getElem (by omega)
      cases hp : p xs[n] with
      | true =>
        rw [given_yes (by rw [hx]; exact hp), ih (by omega), List.take_add_one, hx, List.filter_append, List.map_append]
        simp [hp, hx]
      | false =>
        rw [given_no (by rw [hx]; exact hp), ih (by omega), List.take_add_one, hx, List.filter_append, List.map_append]
        simp [hp, hx]
  rw [key _ (Nat.le_refl _), List.take_length]
section
variable {K : PySem.W.Frag} {σ : L2.St} {H H' : Hp} {ta tb tc te tl : TE} {t u : TT} {x y z v : V} {r r' : R2}
theorem cw_it {J : It} {n : Nat} {G : Hp → Prop} {Y : Nat → Hp → V → Hp → Prop} (w : Walk J n G Y) {H : Hp} {j : Nat} {vs : List Nat} (f : Nat → Bool) (v : Nat → V) (val : Nat → V) {Dl : Addr} (hD : H Dl = none) (hn : n ≤ 40000) (hG : ∀ H1, Ex H H1 → G H1)
    (hY : ∀ i H1 x H2, Ex H H1 → i < n → Y i H1 x H2 → H2 = H1 ∧ x = val i)
    (hw : ∀ x, wipe ((wipe σ vs).set j (some x)) vs = wipe σ vs)
    (ht : ∀ (i : Nat), i < n → EvT t ((wipe σ vs).set j (some (val i))) H (f i)) (he : ∀ (i : Nat), i < n → f i = true → Ev te ((wipe σ vs).set j (some (val i))) H (v i)) {Qd : Hp → Prop} (hd : ∀ H1, Cw H f v Dl n H1 → Qd H1) :
    ∃ W : Nat → Nat → Hp → Prop, (∃ m, W 0 m (upd H Dl (.lst []))) ∧ ∀ i m H, W i m H →
      (J.stop i H ∧ Qd H) ∨ (J.go i H ∧ ∃ Nx : Hp → Prop, (∀ H', Nx H' → ∃ m', m' < m ∧ W (i + 1) m' H') ∧ ∀ x H', J.yld i H x H' → (gName j) x (wipe σ vs) H' fun σ2 H2 => wipe σ2 vs = wipe σ vs ∧ t σ2 H2 fun b H3 =>
        if b = true then te σ2 H3 fun y H4 => ∃ acc, H4 Dl = some (.lst acc) ∧ acc.length < sizeLine ∧ Nx (upd H4 Dl (.lst (acc ++ [y]))) else Nx H3) :=
  lc_it w (Cw H f v Dl) ⟨hD, Ex.new hD, upd_same⟩ (fun i H1 _ p => hG H1 p.2.1) (fun i x H1 H2 hi p y => by
    obtain ⟨rfl, rfl⟩ := hY i H1 x H2 p.2.1 hi y
    exact ⟨hw _, cw_turn p (by omega) (ht i hi) (he i hi)⟩) hd
/-- over a text -/
theorem el_lcS {j : Nat} {vs : List Nat} {z : Str} (p : Nat → Bool) (g : Nat → V) (h : Ev tl σ H (.str z)) (hz : z.length ≤ 40000) (hw : ∀ x, wipe ((wipe σ vs).set j (some x)) vs = wipe σ vs)
    (ht : ∀ (c : Nat) H1, Ex H H1 → c ∈ z.cps.toList → EvT t ((wipe σ vs).set j (some (.str ⟨#[c]⟩))) H1 (p c)) (he : ∀ (c : Nat) H1, Ex H H1 → c ∈ z.cps.toList → p c = true → Ev te ((wipe σ vs).set j (some (.str ⟨#[c]⟩))) H1 (g c)) :
    EvL (tLc (iStr tl) (gName j) t te vs) σ H ((z.cps.toList.filter p).map g) := fun H0 e Q q => h H0 e _ fun H1 e1 => ⟨z, rfl, fun Dl hD => by
  have hs : z.cps.size = z.cps.toList.length := by simp
  have hat : ∀ i, i < z.cps.size → ∃ c, z.cps.toList[i]? = some c ∧ z.cps[i]? = some c ∧ c ∈ z.cps.toList := fun i hi => by
    have h1 : z.cps.toList[i]? = some z.cps.toList[i] := List.getElem?_eq_getElem (by omega)
    exact ⟨_, h1, by simpa using h1, List.getElem_mem _⟩
  have gl := given_list p g z.cps.toList
  refine cw_it walk_str (fun i => (z.cps.toList[i]?.map p).getD false) (fun i => (z.cps.toList[i]?.map g).getD .non) (fun i => .str ⟨#[(z.cps.toList[i]?).getD 0]⟩) hD hz (fun _ _ => trivial) (fun i H2 x H3 _ hi y => ?_) hw (fun i hi => ?_) (fun i hi hf => ?_) (fun H2 k => ?_)
  · obtain ⟨rfl, c, hc, rfl⟩ := y
    obtain ⟨c', h1, h2, _⟩ := hat i hi
    rw [hc] at h2
    cases h2
    rw [h1]
    exact ⟨rfl, rfl⟩
  · obtain ⟨c, h1, _, hm⟩ := hat i hi
    rw [h1]
    exact ht c H1 (e.trans e1) hm
  · obtain ⟨c, h1, _, hm⟩ := hat i hi
    rw [h1] at hf ⊢
    exact he c H1 (e.trans e1) hm hf
  · refine q Dl H2 (fresh_back e1 k.1) (e1.trans k.2.1) ?_
    rw [← gl, ← hs]
    exact k.2.2⟩
/-- over a list -/
theorem el_lcM {α : Type} {j : Nat} {vs : List Nat} {a : Addr} {xs : List α} {cv : α → V} (p : α → Bool) (g : α → V) (h : Ev tl σ H (.ref a)) (hx : SqL K H a (xs.map cv)) (hz : xs.length ≤ 40000) (hw : ∀ x, wipe ((wipe σ vs).set j (some x)) vs = wipe σ vs)
    (ht : ∀ (c : α) H1, Ex H H1 → c ∈ xs → EvT t ((wipe σ vs).set j (some (cv c))) H1 (p c)) (he : ∀ (c : α) H1, Ex H H1 → c ∈ xs → p c = true → Ev te ((wipe σ vs).set j (some (cv c))) H1 (g c)) :
    EvL (tLc (iList K tl) (gName j) t te vs) σ H ((xs.filter p).map g) := fun H0 e Q q => h H0 e _ fun H1 e1 => ⟨a, rfl, ⟨_, ex_l (e.trans e1) hx⟩, fun Dl hD => by
  have hat : ∀ i, i < xs.length → ∃ c, xs[i]? = some c ∧ (xs.map cv)[i]? = some (cv c) ∧ c ∈ xs := fun i hi => by
    have h1 : xs[i]? = some xs[i] := List.getElem?_eq_getElem hi
    exact ⟨_, h1, by rw [List.getElem?_map, h1]; rfl, List.getElem_mem _⟩
  have gl := given_list p g xs
  have hl : (xs.map cv).length = xs.length := List.length_map ..
  refine cw_it (n := (xs.map cv).length) (walk_list (xs := xs.map cv)) (fun i => (xs[i]?.map p).getD false) (fun i => (xs[i]?.map g).getD .non) (fun i => ((xs.map cv)[i]?).getD .non) hD (by omega) (fun H2 e2 => ex_l ((e.trans e1).trans e2) hx) (fun i H2 x H3 _ hi y => ?_) hw (fun i hi => ?_) (fun i hi hf => ?_) (fun H2 k => ?_)
  · obtain ⟨rfl, hc⟩ := y
    rw [hc]
    exact ⟨rfl, rfl⟩
  · obtain ⟨c, h1, h2, hm⟩ := hat i (by omega)
    rw [h1, h2]
    exact ht c H1 (e.trans e1) hm
  · obtain ⟨c, h1, h2, hm⟩ := hat i (by omega)
    rw [h1] at hf ⊢
    rw [h2]
    exact he c H1 (e.trans e1) hm hf
  · refine q Dl H2 (fresh_back e1 k.1) (e1.trans k.2.1) ?_
    rw [← gl, ← hl]
    exact k.2.2⟩
/-- over a tuple -/
theorem el_lcT {α : Type} {j : Nat} {vs : List Nat} {a : Addr} {xs : List α} {cv : α → V} (p : α → Bool) (g : α → V) (h : Ev tl σ H (.ref a)) (hx : SqT K H a (xs.map cv)) (hz : xs.length ≤ 40000) (hw : ∀ x, wipe ((wipe σ vs).set j (some x)) vs = wipe σ vs)
    (ht : ∀ (c : α) H1, Ex H H1 → c ∈ xs → EvT t ((wipe σ vs).set j (some (cv c))) H1 (p c)) (he : ∀ (c : α) H1, Ex H H1 → c ∈ xs → p c = true → Ev te ((wipe σ vs).set j (some (cv c))) H1 (g c)) :
    EvL (tLc (iTup K tl) (gName j) t te vs) σ H ((xs.filter p).map g) := fun H0 e Q q => h H0 e _ fun H1 e1 => ⟨a, rfl, ⟨_, ex_t (e.trans e1) hx⟩, fun Dl hD => by
  have hat : ∀ i, i < xs.length → ∃ c, xs[i]? = some c ∧ (xs.map cv)[i]? = some (cv c) ∧ c ∈ xs := fun i hi => by
    have h1 : xs[i]? = some xs[i] := List.getElem?_eq_getElem hi
    exact ⟨_, h1, by rw [List.getElem?_map, h1]; rfl, List.getElem_mem _⟩
  have gl := given_list p g xs
  have hl : (xs.map cv).length = xs.length := List.length_map ..
  refine cw_it (n := (xs.map cv).length) (walk_tup (xs := xs.map cv)) (fun i => (xs[i]?.map p).getD false) (fun i => (xs[i]?.map g).getD .non) (fun i => ((xs.map cv)[i]?).getD .non) hD (by omega) (fun H2 e2 => ex_t ((e.trans e1).trans e2) hx) (fun i H2 x H3 _ hi y => ?_) hw (fun i hi => ?_) (fun i hi hf => ?_) (fun H2 k => ?_)
  · obtain ⟨rfl, hc⟩ := y
    rw [hc]
    exact ⟨rfl, rfl⟩
  · obtain ⟨c, h1, h2, hm⟩ := hat i (by omega)
    rw [h1, h2]
    exact ht c H1 (e.trans e1) hm
  · obtain ⟨c, h1, h2, hm⟩ := hat i (by omega)
    rw [h1] at hf ⊢
    rw [h2]
    exact he c H1 (e.trans e1) hm hf
  · refine q Dl H2 (fresh_back e1 k.1) (e1.trans k.2.1) ?_
    rw [← gl, ← hl]
    exact k.2.2⟩
theorem et_yes : EvT tYes σ H true := fun H1 _ _ q => q H1 (Ex.refl H1)
end
end Lw

namespace Lw
open PySem PySem.Spec PyProof.Rows L2
section
variable {X : Cx} {CX : CXT} {E : XK} {k : Nat} {f : Addr} {fd : FuncData} {ps ks : List Str} {sp : Sp} {x : Str} {kws : List Keyword} {tk : TA} {p pos : Pos} {g : List Value → List Value → List Value} {gV : List V → List V → List V}
/-- f(k = v, ..) -/
theorem pe_callK0 (F : FnOk X.prog X.w X.K X.mg X.base CX k f fd ps sp) (hr : Room k X.A) (hg : Gl X x) (hm : X.mg x = some (.ref f)) (hk : PySem.W.keepIn X.K (.ref f) = true) (hb : KBinds X.K fd ps ks g gV) (hx : Passes CX X E)
    (hkw : PK X kws tk) (hall : (backToKw pos (keywordEach kws X.env)).all (·.1.isSome) = true := by rfl) (hks : (backToKw pos (keywordEach kws X.env)).filterMap (·.1) = ks := by rfl)
    (hdb : (x == ("__debug__" : Str)) = false := by decide)
    (hpl : ((backTo pos (starEach [] X.env)).any (·.1) || (backToKw pos (keywordEach kws X.env)).any (·.1.isNone)) = false := by rfl) :
    PE X (.Call (.Name x p) [] kws pos) (tCallK sp gV E tNil tk) := by
  refine ⟨fun pins s σ H Q I h => ?_⟩
  refine wpAny_Call_Name_kw (ld_glob I hg hm ?_ hdb)
  refine PySem.W.callWith_KW0 (h₀ := X.base) I.ok.mod.kin hk hall ?_ hpl
  refine thn (hkw.run pos pins s σ H _ I h) fun ws s2 ⟨zs, H2, I2, rz, q2⟩ => ⟨I2.kIn, ?_⟩
  rw [hks]
  exact run_fnk (us := []) (vs := []) F hr hb hx I2 .nil rz q2
end
section
variable {X : Cx}
def revS (z : Str) : Str := ⟨z.cps.toList.reverse.toArray⟩
theorem revS_len (z : Str) : (revS z).length = z.length := by simp [revS, Str.length]
def tRevS (te : TE) : TE := fun σ H Q => te σ H fun x H1 => ∃ z, x = .str z ∧ z.length ≤ sizeLine ∧ Q (.str (revS z)) H1
theorem pe_revS {e : Expr} {te : TE} {k : Nat} {p1 p2 p3 pos : Pos} (he : PE X e te) : PE X (.Subscript e (.Slice none none (some (.UnaryOp .USub (.Constant (.int 1) k p1) p2)) p3) pos) (tRevS te) := by
  refine ⟨fun pins s σ H Q I h => ?_⟩
  refine Subscript_ (thn (he.run pins s σ H _ I h) fun v s1 ⟨x, H1, I1, r1, q1⟩ => ?_)
  obtain ⟨z, ex, hz, q⟩ := q1
  subst ex
  obtain ⟨t, rfl⟩ := r1
  have hst : PO X (some (.UnaryOp .USub (.Constant (.int 1) k p1) p2)) (tPart (tUn (rU fun i => .int (-i)) (tC (.int 1)))) := po_some (pe_un un_neg pe_int)
  refine wpAny_Slice (thn (po_none.run pins s1 σ H1 (fun o H2 => o = none ∧ H2 = H1) I1 ⟨rfl, rfl⟩) fun vl s2 ⟨l, H2, I2, pl, el, e2⟩ => ?_)
  subst el e2
  refine thn (po_none.run pins s2 σ H2 (fun o H3 => o = none ∧ H3 = H2) I2 ⟨rfl, rfl⟩) fun vu s3 ⟨u, H3, I3, pu, eu, e3⟩ => ?_
  subst eu e3
  refine thn (hst.run pins s3 σ H3 (fun o H4 => o = some (-1) ∧ H4 = H3) I3 ⟨1, rfl, -1, rfl, rfl, rfl⟩) fun vs s4 ⟨o, H4, I4, ps, eo, e4⟩ => ?_
  subst eo e4
  have I5 : Inv X pins σ H4 { s4 with heap := s4.heap.push { cls := .type "slice", data := .fields #[vl, vu, vs] } } := I4.kept (t' := s4.toks) fun b ob q => Heap.get?_push_of_some _ q
  cases pl
  cases pu
  cases ps with
  | int _ tk =>
    show wpAny (model X.prog X.w) X.A (subscriptTail e (.Slice none none (some (.UnaryOp .USub (.Constant (.int 1) k p1) p2)) p3) (.str z t) (.ref s4.heap.objs.size)) (EP X pins σ Q) X.xe { s4 with heap := s4.heap.push { cls := .type "slice", data := .fields #[.none, .none, .int (-1) tk] } }
    refine tail_any (ops := [.str z t, .ref s4.heap.objs.size]) (typeIs_str _ _ _) F.slot_str_getitem.lookup ?_ (by with_unfolding_all rfl)
    refine wpAny_getItem_str_slice (l := none) (u := none) (st := some (-1, tk)) ⟨_, Heap.get?_push_size _ rfl, rfl, rfl⟩ rfl ?_
    have hm : sliceMade z t none none (some (-1, tk)) = .str (revS z) := by
      unfold sliceMade
      rw [if_neg (by simp)]
      show Made.str ⟨((Builtin.Str.strSliceIndices none none (-1) z.length).filterMap (z.cps[·]?)).toArray⟩ = Made.str (revS z)
      rw [picked_rev, PySem.W.krv_range, List.filterMap_reverse]
      show Made.str ⟨(((List.range z.cps.size).filterMap (z.cps[·]?)).reverse).toArray⟩ = _
      rw [PySem.W.krv_all]
      rfl
    rw [hm]
    refine ⟨by rw [revS_len]; exact hz, .str _, H4, I5.tok _, ⟨_, rfl⟩, q⟩
end
end Lw
namespace Lw
open PySem PySem.Spec PyProof.Rows L2
theorem joinL_nil : ∀ ps : List (List Nat), TL.joinL [] ps = ps.flatten
  | [] => rfl
  | [p] => by simp [TL.joinL]
  | p :: q :: r => by
    show p ++ ([] ++ TL.joinL [] (q :: r)) = _
    rw [joinL_nil (q :: r)]
    simp
theorem join0 (zs : List Str) : (Txt.join "" zs).cps.toList = (zs.map fun z => z.cps.toList).flatten := by
  rw [TL.join_eq]
  show TL.tl (Str.join "" zs) = _
  rw [TL.tl_join, show TL.tl ("" : Str) = [] by decide +kernel]
  exact joinL_nil _
theorem len_tl (z : Str) : z.length = z.cps.toList.length := by simp [Str.length]
theorem sok_append {a b : Str} (ha : SOk a) (hb : SOk b) : SOk (a ++ b) := by
  intro c hc
  rw [show (a ++ b).cps.toList = a.cps.toList ++ b.cps.toList from TL.tl_append a b] at hc
  rcases List.mem_append.mp hc with h | h
  · exact ha c h
  · exact hb c h
theorem len_append (a b : Str) : (a ++ b).length = a.length + b.length := by
  rw [len_tl, len_tl, len_tl, show (a ++ b).cps.toList = a.cps.toList ++ b.cps.toList from TL.tl_append a b, List.length_append]
theorem sok_rev {a : Str} (ha : SOk a) : SOk (revS a) := by
  intro c hc
  refine ha c ?_
  simpa [revS] using hc
/-- signs: texts of one code -/
def Sg (z : Str) : Prop := z.length = 1 ∧ SOk z
theorem join_sg {zs : List Str} (h : ∀ z ∈ zs, Sg z) : (Txt.join "" zs).length = zs.length ∧ SOk (Txt.join "" zs) := by
  rw [len_tl]
  have e := join0 zs
  constructor
  · rw [e]
    clear e
    induction zs with
    | nil => rfl
    | cons z r ih =>
      rw [List.map_cons, List.flatten_cons, List.length_append, ih fun y hy => h y (List.mem_cons_of_mem _ hy), ← len_tl, (h z List.mem_cons_self).1, List.length_cons]
      omega
  · intro c hc
    rw [e] at hc
    obtain ⟨l, hl, hc⟩ := List.mem_flatten.mp hc
    obtain ⟨z, hz, rfl⟩ := List.mem_map.mp hl
    exact (h z hz).2 c hc
theorem sg_one {c : Nat} {z : Str} (h : SOk z) (hc : c ∈ z.cps.toList) : Sg ⟨#[c]⟩ := ⟨rfl, fun d hd => by
  have : d = c := by simpa using hd
  rw [this]
  exact h c hc⟩
theorem atI_some {α : Type} {xs : List α} {i : Int} (h0 : 0 ≤ i) (h1 : i < xs.length) : ∃ v, atI xs i = some v ∧ v ∈ xs := by
  obtain ⟨j, rfl⟩ : ∃ j : Nat, i = (j : Int) := ⟨i.toNat, by omega⟩
  have hj : j < xs.length := by omega
  exact ⟨xs[j], atI_nat (List.getElem?_eq_getElem hj), List.getElem_mem _⟩
theorem ixN_some {n : Nat} {i : Int} (h0 : 0 ≤ i) (h1 : i < n) : ∃ j, ixN n i = some j ∧ j < n := by
  obtain ⟨j, rfl⟩ : ∃ j : Nat, i = (j : Int) := ⟨i.toNat, by omega⟩
  exact ⟨j, Evl.ixN_nat (by omega), by omega⟩
end Lw

namespace Lw
open PySem PySem.Spec PyProof.Rows L2
def topS (i : Nat) : Stmt := PySem.Challenge.pw_bundlekinds_k01_valid_names.main.body.getD i (.Pass ⟨0, 0, 0, 0⟩)
abbrev s_law_draw : Stmt := topS 7
abbrev n_law_draw : List Str := ["_law_state", "_law_size", "_law_digit", "_law_cell", "_law_one"]
theorem sc_law_draw : FnScope n_law_draw ["_law_state", "_law_size"] (defScope s_law_draw) := ⟨rfl, rfl, rfl, by decide +kernel, rfl, by decide +kernel, by decide +kernel⟩
section
variable {P : Program} {w : World} {K : PySem.W.Frag} {mg : Str → Option Value} {base : Heap}
def sp_draw : Sp := fun vs H Q _ => ∃ (st : Addr) (size : Int) (n : Nat), vs = [.ref st, .int size] ∧ DS H st n ∧ n ≤ 1000000000 ∧ 0 < size ∧ size < 1000000000 ∧
  ∀ (d : Int) (H' : Hp), 0 ≤ d → d < size → DS H' st (n + 1) → Kp st H H' → Q (.int d) H'
theorem ok_draw {f : Addr} {fd : FuncData} {k : Nat} (F : Fun K "_law_draw" "_law_draw" s_law_draw f fd) (m_int : mg "int" = none) (m_len : mg "len" = none) : FnOk P w K mg base CX0 (k + 1) f fd ["_law_state", "_law_size"] sp_draw := by
  refine F.ok sc_law_draw (fun vs H Q E h => ?_) (fun cdv A outer s H vs Q E hr h => ?_)
  · obtain ⟨st, size, n, rfl, _⟩ := h
    rfl
  · obtain ⟨st, size, n, rfl, ⟨q, r, bs, cs, c, D, hb, hcs, hc0, hcn⟩, hn, hs0, hs1, hQ⟩ := h
    refine ⟨_, (pss_cons (ps_augS (pv 0) pe_int pget_list pe_int ip_add set_list)
  (Evl.pss_cut (ps_while PassesOwn.never (PW.pt (pw_and (pt_cmpR (op_neD hr.units) (pe_ix ix_list (pv 0) pe_int (fun _ _ => rfl)) (pe_lst pa_nil) (nomark _)) (pw_and1 (pt_cmpR op_eq (pe_ix ix_list (pe_ix ix_list (pv 0) pe_int (fun _ _ => rfl)) pe_int (fun _ _ => rfl)) pe_int (nomark _)))))
   (pss_one (ps_asg (pe_slice sl_list (pe_ix ix_list (pv 0) pe_int (fun _ _ => rfl)) (po_some pe_int) po_none) (pg_sub (pv 0) pe_int set_list))))
  (pss_cons (ps_if (pt_cmpR (op_neD hr.units) (pe_ix ix_list (pv 0) pe_int (fun _ _ => rfl)) (pe_lst pa_nil) (nomark _))
   (pss_cons (ps_set (i := 2) sc_law_draw.nd rfl (by first | exact .inl rfl | exact .inr rfl) (pe_op op_mod (pe_callTy call_int1 (by rfl) m_int (by decide +kernel) (pa_cons (pe_ix ix_list (pe_ix ix_list (pv 0) pe_int (fun _ _ => rfl)) pe_int (fun _ _ => rfl)) pa_nil)) (pv 1)))
  (pss_cons (ps_asg (pe_op op_fdiv (pe_ix ix_list (pe_ix ix_list (pv 0) pe_int (fun _ _ => rfl)) pe_int (fun _ _ => rfl)) (pv 1)) (pg_sub (pe_ix ix_list (pv 0) pe_int (fun _ _ => rfl)) pe_int set_list))
  (pss_one (ps_ret (pv 2)))))
   pss_nil)
  (pss_cons (ps_set (i := 3) sc_law_draw.nd rfl (by first | exact .inl rfl | exact .inr rfl) (pe_op op_mod (pe_callTy call_int1 (by rfl) m_int (by decide +kernel) (pa_cons (pe_ix ix_list (pe_ix ix_list (pv 0) pe_int (fun _ _ => rfl)) (pe_op op_mod (pe_callTy call_int1 (by rfl) m_int (by decide +kernel) (pa_cons (pe_ix ix_list (pv 0) pe_int (fun _ _ => rfl)) pa_nil)) (pe_callB call_len_seq (by rfl) m_len PySem.boot_len (pa_cons (pe_ix ix_list (pv 0) pe_int (fun _ _ => rfl)) pa_nil))) (fun _ _ => rfl)) pa_nil)) pe_int))
  (pss_cons (ps_set (i := 4) sc_law_draw.nd rfl (by first | exact .inl rfl | exact .inr rfl) (pe_op op_mod (pe_callTy call_int1 (by rfl) m_int (by decide +kernel) (pa_cons (pe_op op_pow (pe_op op_add (pe_op op_add (pe_op op_mul (pv 3) pe_int) (pe_op op_mul (pe_ix ix_list (pv 0) pe_int (fun _ _ => rfl)) pe_int)) pe_int) pe_int) pa_nil)) pe_int))
  (pss_one (ps_ret (pe_op op_mod (pe_op op_mod (pe_callTy call_int1 (by rfl) m_int (by decide +kernel) (pa_cons (pe_op op_pow (pe_op op_add (pe_op op_add (pe_op op_mul (pv 4) pe_int) (pe_op op_mul (pe_ix ix_list (pv 0) pe_int (fun _ _ => rfl)) pe_int)) pe_int) pe_int) pa_nil)) pe_int) (pv 1))))))))), ?_⟩
    refine ⟨.ref st, rfl, st, _, 2, .int c, rfl, rfl, .inl (.inl D.st'), rfl, c, 1, rfl, rfl, st, _, 2, 2, rfl, rfl, D.st', rfl, ?_⟩
    refine ⟨fun σ' H' => ∃ q' bs', σ' = L2.start n_law_draw [.ref st, .int size] ∧ DX H' st q' r bs' cs (c + 1) ∧ (∀ b ∈ bs', 0 ≤ b) ∧ Kp st H H', ?_, ?_⟩
    · refine ⟨fun m σ' H' => ∃ q' bs', m = bs'.length ∧ σ' = L2.start n_law_draw [.ref st, .int size] ∧ DX H' st q' r bs' cs (c + 1) ∧ (∀ b ∈ bs', 0 ≤ b) ∧ Kp st H H', ⟨bs.length, q, bs, rfl, rfl, D.count, hb, D.countK⟩, ?_⟩
      rintro m σ' H' ⟨q', bs', rfl, rfl, D', hb', kp⟩
      refine ⟨.ref st, rfl, st, _, 0, .ref q', rfl, rfl, .inl (.inl D'.st'), rfl, Nat.zero_le _, fun p np => ?_⟩
      have D2 : DX (upd H' p (.lst [])) st q' r bs' cs (c + 1) := D'.new np
      have kp2 : Kp st H (upd H' p (.lst [])) := kp.trans (D'.newK np)
      refine ⟨_, _, dp_ints (.inl (.inl D2.q')), dp_empty (.inl (.inl upd_same)), sh_ints _, sh_empty, _, rfl, ?_⟩
      rw [eqv_nil_map]
      cases bs' with
      | nil => exact ⟨q', [], rfl, D2, hb', kp2⟩
      | cons b bs'' =>
        refine ⟨.ref st, rfl, st, _, 0, .ref q', rfl, rfl, .inl (.inl D2.st'), rfl, q', _, 0, .int b, rfl, rfl, .inl (.inl D2.q'), atI_nat (j := 0) rfl, rfl, _, rfl, ite2 (fun hz => ?_) (fun _ => ⟨q', b :: bs'', rfl, D2, hb', kp2⟩)⟩
        refine ⟨_, fun σ2 H2 h => ⟨bs''.length, Nat.lt_succ_self _, h⟩, ?_⟩
        refine ⟨.ref st, rfl, st, _, 0, .ref q', rfl, rfl, .inl (.inl D2.st'), rfl, 1, rfl, q', _, rfl, .inl (.inl D2.q'), fun t nt => ?_⟩
        have ec : cutV ((b :: bs'').map V.int) (some 1) none = bs''.map V.int := by
          unfold cutV
          rw [show HT.sIx ((b :: bs'').map V.int).length 0 (some 1) = 1 from by
            rw [show (1 : Int) = ((1 : Nat) : Int) from rfl, HT.sIx_nat, List.length_map, List.length_cons]
            omega, HT.sIx_none]
          show List.take (((b :: bs'').map V.int).length - 1) (bs''.map V.int) = _
          exact List.take_of_length_le (by simp)
        rw [ec]
        have D3 := D2.new (o := .lst (bs''.map V.int)) nt
        refine ⟨.ref st, rfl, st, _, 0, 0, rfl, rfl, D3.st', rfl, ?_⟩
        exact ⟨t, bs'', rfl, rfl, D2.swap nt, fun x hx => hb' x (List.mem_cons_of_mem _ hx), kp2.trans (D2.swapK nt)⟩
    · rintro σ' H' ⟨q', bs', rfl, D', hb', kp⟩
      refine ⟨.ref st, rfl, st, _, 0, .ref q', rfl, rfl, .inl (.inl D'.st'), rfl, Nat.zero_le _, fun p np => ?_⟩
      have D2 : DX (upd H' p (.lst [])) st q' r bs' cs (c + 1) := D'.new np
      have kp2 : Kp st H (upd H' p (.lst [])) := kp.trans (D'.newK np)
      refine ⟨_, _, dp_ints (.inl (.inl D2.q')), dp_empty (.inl (.inl upd_same)), sh_ints _, sh_empty, _, rfl, ?_⟩
      rw [eqv_nil_map]
      cases bs' with
      | cons b bs'' =>
        refine ⟨.ref st, rfl, st, _, 0, .ref q', rfl, rfl, .inl (.inl D2.st'), rfl, q', _, 0, .int b, rfl, rfl, .inl (.inl D2.q'), atI_nat (j := 0) rfl, .inl ⟨b, rfl, ?_⟩⟩
        refine ⟨.int size, rfl, b, size, rfl, rfl, hs0, ?_⟩
        refine ⟨.ref st, rfl, st, _, 0, .ref q', rfl, rfl, .inl (.inl D2.st'), rfl, q', _, 0, .int b, rfl, rfl, .inl (.inl D2.q'), atI_nat (j := 0) rfl, .int size, rfl, b, size, rfl, rfl, ⟨hs0, by omega⟩, ?_⟩
        refine ⟨.ref st, rfl, st, _, 0, .ref q', rfl, rfl, .inl (.inl D2.st'), rfl, q', _, 0, 0, rfl, rfl, D2.q', Evl.ixN_nat (j := 0) (by simp), ?_⟩
        refine ⟨.int (b % size), rfl, hQ (b % size) _ (Int.emod_nonneg _ (by omega)) (Int.emod_lt_of_pos _ hs0) ⟨q', r, (b / size) :: bs'', cs, c + 1, D2.own (ds := (b / size) :: bs''), ?_, hcs, by omega, by omega⟩ (kp2.trans (D2.ownK (ds := (b / size) :: bs'')))⟩
        intro x hx
        rcases List.mem_cons.mp hx with rfl | hx
        · exact Int.ediv_nonneg (hb' b List.mem_cons_self) (by omega)
        · exact hb' x (List.mem_cons_of_mem _ hx)
      | nil =>
        have hl : 0 < cs.length := List.length_pos_iff.mpr hcs
        have hi0 : 0 ≤ (c + 1) % (cs.length : Int) := Int.emod_nonneg _ (by omega)
        have hi1 : (c + 1) % (cs.length : Int) < cs.length := Int.emod_lt_of_pos _ (by omega)
        obtain ⟨j, hj⟩ : ∃ j : Nat, (c + 1) % (cs.length : Int) = (j : Int) := ⟨((c + 1) % (cs.length : Int)).toNat, by omega⟩
        have hjl : j < cs.length := by omega
        have hat : atI (cs.map V.int) ((c + 1) % ((cs.map V.int).length : Int)) = some (.int cs[j]) := by
          rw [List.length_map, hj]
          exact atI_nat (by rw [List.getElem?_map, List.getElem?_eq_getElem hjl]; rfl)
        refine ⟨.ref st, rfl, st, _, 1, .ref r, rfl, rfl, .inl (.inl D2.st'), rfl, .ref st, rfl, st, _, 2, .int (c + 1), rfl, rfl, .inl (.inl D2.st'), rfl, .inl ⟨c + 1, rfl, ?_⟩⟩
        refine ⟨.ref st, rfl, st, _, 1, .ref r, rfl, rfl, .inl (.inl D2.st'), rfl, r, _, rfl, .inl (.inl (.inl D2.r')), c + 1, _, rfl, rfl, ?_, ?_⟩
        · show (0 : Int) < ((cs.map V.int).length : Int)
          rw [List.length_map]
          omega
        refine ⟨r, _, _, .int cs[j], rfl, rfl, .inl (.inl D2.r'), hat, .inl ⟨cs[j], rfl, cs[j], 2147483647, rfl, rfl, (by omega : (0 : Int) < 2147483647), ?_⟩⟩
        have hm0 : 0 ≤ cs[j] % 2147483647 := Int.emod_nonneg _ (by omega)
        have hm1 : cs[j] % 2147483647 < 2147483647 := Int.emod_lt_of_pos _ (by omega)
        dsimp only
        generalize cs[j] % 2147483647 = m at hm0 hm1
        have hw1 : -(2 ^ 64 : Int) < 48271 ∧ (48271 : Int) < 2 ^ 64 := by decide
        have hw2 : -(2 ^ 64 : Int) < 69621 ∧ (69621 : Int) < 2 ^ 64 := by decide
        have hw3 : -(2 ^ 64 : Int) < 16807 ∧ (16807 : Int) < 2 ^ 64 := by decide
        have hw4 : -(2 ^ 64 : Int) < 40692 ∧ (40692 : Int) < 2 ^ 64 := by decide
        refine ⟨.int m, rfl, m, 48271, rfl, rfl, .inr hw1, ?_⟩
        refine ⟨.ref st, rfl, st, _, 2, .int (c + 1), rfl, rfl, .inl (.inl D2.st'), rfl, c + 1, 69621, rfl, rfl, .inr hw2, m * 48271, (c + 1) * 69621, rfl, rfl, m * 48271 + (c + 1) * 69621, 7, rfl, rfl, ?_⟩
        refine ⟨m * 48271 + (c + 1) * 69621 + 7, 5, rfl, rfl, ⟨by omega, by omega, ?_⟩, .inl ⟨_, rfl, _, 2147483647, rfl, rfl, (by omega : (0 : Int) < 2147483647), ?_⟩⟩
        · have : (2 : Nat) ^ 64 = 18446744073709551616 := by decide
          omega
        have hk0 : 0 ≤ (m * 48271 + (c + 1) * 69621 + 7) ^ (5 : Int).toNat % 2147483647 := Int.emod_nonneg _ (by omega)
        have hk1 : (m * 48271 + (c + 1) * 69621 + 7) ^ (5 : Int).toNat % 2147483647 < 2147483647 := Int.emod_lt_of_pos _ (by omega)
        dsimp only
        generalize (m * 48271 + (c + 1) * 69621 + 7) ^ (5 : Int).toNat % 2147483647 = k at hk0 hk1
        refine ⟨.int k, rfl, k, 16807, rfl, rfl, .inr hw3, ?_⟩
        refine ⟨.ref st, rfl, st, _, 2, .int (c + 1), rfl, rfl, .inl (.inl D2.st'), rfl, c + 1, 40692, rfl, rfl, .inr hw4, k * 16807, (c + 1) * 40692, rfl, rfl, k * 16807 + (c + 1) * 40692, 13, rfl, rfl, ?_⟩
        refine ⟨k * 16807 + (c + 1) * 40692 + 13, 5, rfl, rfl, ⟨by omega, by omega, ?_⟩, .inl ⟨_, rfl, _, 2147483629, rfl, rfl, (by omega : (0 : Int) < 2147483629), .int size, rfl, _, size, rfl, rfl, hs0, ?_⟩⟩
        · have : (2 : Nat) ^ 64 = 18446744073709551616 := by decide
          omega
        exact hQ _ _ (Int.emod_nonneg _ (by omega)) (Int.emod_lt_of_pos _ hs0) ⟨q', r, [], cs, c + 1, D2, hb', hcs, by omega, by omega⟩ kp2
end
end Lw

namespace Lw
open PySem PySem.Spec PyProof.Rows L2
abbrev s_law_start : Stmt := topS 6
abbrev n_law_start : List Str := ["_law_script", "_law_cell"]
theorem sc_law_start : FnScope n_law_start ["_law_script"] (defScope s_law_start) := ⟨rfl, rfl, rfl, by decide +kernel, rfl, by decide +kernel, by decide +kernel⟩
section
variable {P : Program} {w : World} {K : PySem.W.Frag} {mg : Str → Option Value} {base : Heap}
def sp_start (K : PySem.W.Frag) : Sp := fun vs H Q _ => ∃ (a : Addr) (ns : List Int), vs = [.ref a] ∧ SqL K H a (ns.map V.int) ∧ ns.length ≤ 63 ∧
  ∀ (st : Addr) (H' : Hp), DS H' st 0 → (∀ b o, H b = some o → Ap H' st b o) → Q (.ref st) H'
theorem ok_start {f : Addr} {fd : FuncData} {k : Nat} (F : Fun K "_law_start" "_law_start" s_law_start f fd) (m_abs : mg "abs" = none) (m_list : mg "list" = none) : FnOk P w K mg base CX0 (k + 1) f fd ["_law_script"] (sp_start K) := by
  refine F.ok sc_law_start (fun vs H Q E h => ?_) (fun cdv A outer s H vs Q E hr h => ?_)
  · obtain ⟨a, ns, rfl, _⟩ := h
    rfl
  · obtain ⟨a, ns, rfl, hS, hlen, hQ⟩ := h
    refine ⟨_, (pss_one (ps_ret (pe_lst (pa_cons (pe_lc (own := [("_law_cell", 1)]) (g := gName 1) (by rfl) sc_law_start.nd (pi_list (pv 0)) (blkOk_by (own := [("_law_cell", 1)]) (N := n_law_start) (sc := defScope s_law_start) (by decide +kernel)) (fun _ _ _ _ _ => pg_name (i := 1) sc_law_start.nd rfl (by first | exact .inl rfl | exact .inr rfl)) (fun _ _ _ _ _ => (pts_one (pt_cmpR op_ge (pe_callB call_abs (by rfl) m_abs (by decide +kernel) (pa_cons (pv 1) pa_nil)) (pe_op op_pow pe_int pe_int) (nomark _)))) (fun _ _ _ _ _ => (pe_callB call_abs (by rfl) m_abs (by decide +kernel) (pa_cons (pv 1) pa_nil)))) (pa_cons (pe_op op_cat (pe_callTy call_list_of (by rfl) m_list (by decide +kernel) (pa_cons (pv 0) pa_nil)) (pe_lst (pa_cons pe_int pa_nil))) (pa_cons pe_int pa_nil)))))), ?_⟩
    refine ⟨.ref a, rfl, a, rfl, ⟨_, hS⟩, fun D nD => ?_⟩
    refine lc_list (xs := ns.map V.int) (fun i H' => Same H H' ∧ ∃ bs : List Int, H' D = some (.lst (bs.map V.int)) ∧ (∀ b ∈ bs, 0 ≤ b) ∧ bs.length ≤ i) ⟨Evl.Ex.new nD, [], upd_same, (fun _ h => by simp at h), Nat.le_refl _⟩ (fun i H' _ p => p.1.seq hS) (fun i x H' hx p => ?_) (fun H1 p => ?_)
    · rw [List.getElem?_map] at hx
      cases hz : ns[i]? with
      | none =>
        rw [hz] at hx
        cases hx
      | some z =>
        rw [hz] at hx
        cases hx
        have hi : i < ns.length := (List.getElem?_eq_some_iff.mp hz).1
        obtain ⟨sm, bs, eD, hb, hl⟩ := p
        refine ⟨rfl, .int z, rfl, z, rfl, 10, 18, rfl, rfl, ⟨by decide, by decide, by decide⟩, _, _, rfl, rfl, _, rfl, ite2 (fun _ => ?_) (fun _ => ⟨sm, bs, eD, hb, by omega⟩)⟩
        refine ⟨.int z, rfl, z, rfl, _, eD, ?_, fun b o e => ?_, bs ++ [if z < 0 then -z else z], ?_, ?_, ?_⟩
        · rw [List.length_map]
          exact small1000 (by omega)
        · rw [upd_ne (ne_of_none e nD)]
          exact sm b o e
        · rw [upd_same, List.map_append]
          rfl
        · intro b h
          rcases List.mem_append.mp h with h | h
          · exact hb b h
          · rw [List.mem_singleton.mp h]
            split <;> omega
        · rw [List.length_append]
          show bs.length + 1 ≤ i + 1
          omega
    · obtain ⟨sm, bs, eD, hb, hl⟩ := p
      refine ⟨.ref a, rfl, a, _, rfl, .inl (sm.seq hS), fun l nl => ⟨by show (1 : Nat) ≤ sizeLine; decide, fun e ne => ?_⟩⟩
      have elD := ne_of_none eD nl
      have h1 : (upd H1 l (.lst (ns.map V.int))) D = some (.lst (bs.map V.int)) := (upd_ne elD).trans eD
      have nel : l ≠ e := ne_of_none upd_same ne
      have neD := ne_of_none h1 ne
      refine ⟨l, e, _, _, rfl, rfl, (upd_ne nel).trans upd_same, upd_same, ?_, fun r nr => ⟨by show (3 : Nat) ≤ sizeLine; decide, fun st nst => ?_⟩⟩
      · show (ns.map V.int).length + 1 ≤ sizeLine
        rw [List.length_map]
        exact Nat.le_of_lt (small1000 (by omega))
      · have h2 : (upd (upd H1 l (.lst (ns.map V.int))) e (.lst [V.int 5])) D = some (.lst (bs.map V.int)) := (upd_ne neD).trans h1
        have h3 := ne_of_none h2 nr
        have h4 := (upd_ne (o := .lst (ns.map V.int ++ [V.int 5])) h3).trans h2
        have h5 := ne_of_none h4 nst
        have h6 : (upd (upd (upd H1 l (.lst (ns.map V.int))) e (.lst [V.int 5])) r (.lst (ns.map V.int ++ [V.int 5]))) r = some (.lst (ns.map V.int ++ [V.int 5])) := upd_same
        have h7 := ne_of_none h6 nst
        have dx : DX (upd (upd (upd (upd H1 l (.lst (ns.map V.int))) e (.lst [V.int 5])) r (.lst (ns.map V.int ++ [V.int 5]))) st (.lst [.ref D, .ref r, .int 0])) st D r bs (ns ++ [5]) 0 := ⟨upd_same, (upd_ne h5).trans h4, by rw [upd_ne h7, upd_same, List.map_append]; rfl, h3, h5, h7⟩
        refine hQ st _ ⟨D, r, bs, ns ++ [5], 0, dx, hb, by simp, by omega, by omega⟩ fun b o eb => ?_
        have b1 := sm b o eb
        have b2 := (upd_ne (o := .lst (ns.map V.int)) (ne_of_none b1 nl)).trans b1
        have b3 := (upd_ne (o := .lst [V.int 5]) (ne_of_none b2 ne)).trans b2
        have b4 := (upd_ne (o := .lst (ns.map V.int ++ [V.int 5])) (ne_of_none b3 nr)).trans b3
        have b5 := ne_of_none b4 nst
        exact (ap_iff dx).mpr ⟨(upd_ne b5).trans b4, b5, ne_of_none eb nD, ne_of_none b3 nr⟩
end
end Lw

namespace Lw
open PySem PySem.Spec PyProof.Rows L2
def LET : Str := "abcdefghijklmnopqrstuvwxyz"
def DIG : Str := "0123456789"
/-- whether a code is a letter's, a figure's -/
def isL (c : Nat) : Bool := decide (c ∈ LET.cps.toList)
def isD (c : Nat) : Bool := decide (c ∈ DIG.cps.toList)
/-- the names -/
def vnL : List Nat → Bool
  | [] => false
  | c :: r => decide ((c :: r).length ≤ 6) && isL c && (c :: r).all fun d => isL d || isD d
theorem vnL_cons (c : Nat) (r : List Nat) : vnL (c :: r) = (decide ((c :: r).length ≤ 6) && isL c && (c :: r).all fun d => isL d || isD d) := rfl
def vn (z : Str) : Bool := vnL z.cps.toList
theorem cps_at {z : Str} {i c : Nat} (h : z.cps[i]? = some c) : z.cps.toList[i]? = some c := by simpa using h
theorem take_all {α : Type} {xs : List α} {p : α → Bool} {i : Nat} {c : α} (h : xs[i]? = some c) : (xs.take (i + 1)).all p = ((xs.take i).all p && p c) := by
  rw [List.take_add_one, h]
  simp
theorem take_map {α β : Type} {xs : List α} {f : α → β} {i : Nat} {c : α} (h : xs[i]? = some c) : (xs.take (i + 1)).map f = (xs.take i).map f ++ [f c] := by
  rw [List.take_add_one, h, List.map_append]
  rfl
abbrev s_valid_name : Stmt := topS 4
abbrev n_valid_name : List Str := ["text", "sign"]
theorem sc_valid_name : FnScope n_valid_name ["text"] (defScope s_valid_name) := ⟨rfl, rfl, rfl, by decide +kernel, rfl, by decide +kernel, by decide +kernel⟩
abbrev s_law_good : Stmt := topS 9
abbrev n_law_good : List Str := ["_law_word", "_law_letters", "_law_sign"]
theorem sc_law_good : FnScope n_law_good ["_law_word"] (defScope s_law_good) := ⟨rfl, rfl, rfl, by decide +kernel, rfl, by decide +kernel, by decide +kernel⟩
abbrev s_law_signs : Stmt := topS 8
abbrev n_law_signs : List Str := ["_law_signs_here"]
theorem sc_law_signs : FnScope n_law_signs [] (defScope s_law_signs) := ⟨rfl, rfl, rfl, by decide +kernel, rfl, by decide +kernel, by decide +kernel⟩
section
variable {P : Program} {w : World} {K : PySem.W.Frag} {mg : Str → Option Value} {base : Heap}
def sp_vn : Sp := fun vs H Q _ => ∃ (z : Str), vs = [.str z] ∧ z.length ≤ 1000 ∧ SOk z ∧ ∀ H', Same H H' → Q (.bl (vn z)) H'
theorem ok_vn {f : Addr} {fd : FuncData} {k : Nat} (F : Fun K "valid_name" "valid_name" s_valid_name f fd) (m_len : mg "len" = none) (m_all : mg "all" = none)
    (m_LETTERS : ∃ u, mg "LETTERS" = some u ∧ RelV (.str LET) u) (m_DIGITS : ∃ u, mg "DIGITS" = some u ∧ RelV (.str DIG) u) (m_MOST_SIGNS : ∃ u, mg "MOST_SIGNS" = some u ∧ RelV (.int 6) u) : FnOk P w K mg base CX0 (k + 1) f fd ["text"] sp_vn := by
  refine F.ok sc_valid_name (fun vs H Q E h => ?_) (fun cdv A outer s H vs Q E hr h => ?_)
  · obtain ⟨z, rfl, _⟩ := h
    rfl
  · obtain ⟨z, rfl, hz, hok, hQ⟩ := h
    have hzl : z.length ≤ sizeLine := Nat.le_of_lt (small1000 hz)
    refine ⟨_, (pss_cons (ps_if (pt_not (pt_chain op_le op_le pe_int (pe_callB call_len_str (by rfl) m_len PySem.boot_len (pa_cons (pv 0) pa_nil)) (pe_gv (by rfl) m_MOST_SIGNS)))
   (pss_one (ps_ret pe_bl))
   pss_nil)
  (pss_cons (ps_if (pt_cmpR op_notIn_sign (pe_ix ix_str (pv 0) pe_int (fun _ _ => rfl)) (pe_gv (by rfl) m_LETTERS) rfl)
   (pss_one (ps_ret pe_bl))
   pss_nil)
  (pss_one (ps_ret (pe_callB (cr_all rfl) (by rfl) m_all (by decide +kernel) (pa_cons (pe_lc (own := [("sign", 1)]) (g := gName 1) (by rfl) sc_valid_name.nd (pi_str (pv 0)) (blkOk_by (own := [("sign", 1)]) (N := n_valid_name) (sc := defScope s_valid_name) (by decide +kernel)) (fun _ _ _ _ _ => pg_name (i := 1) sc_valid_name.nd rfl (by first | exact .inl rfl | exact .inr rfl)) (fun _ _ _ _ _ => pts_nil) (fun _ _ _ _ _ => (pe_or (pe_cmpR op_in_sign (pv 1) (pe_gv (by rfl) m_LETTERS) rfl) (pe_one (pe_cmpR op_in_sign (pv 1) (pe_gv (by rfl) m_DIGITS) rfl))))) pa_nil)))))), ?_⟩
    refine Evl.q_when (b := !(decide ((1 : Int) ≤ (z.length : Int)) && decide ((z.length : Int) ≤ 6))) (Evl.et_not (Evl.et_test (ev_chain Evl.ev_c (Evl.ev_cb (Evl.ea_cons (Evl.ev_var rfl) Evl.ea_nil) (rc_lenStr hzl)) Evl.rv_I0 (fun _ => Evl.ev_c) (fun _ => Evl.rv_I0)))) (fun hb H1 e1 => Evl.s_ret Evl.ev_c fun H2 e2 => ?_) (fun hb H1 e1 => ?_)
    · have e : vn z = false := by
        unfold vn
        rw [len_tl] at hb
        cases hc : z.cps.toList with
        | nil => rfl
        | cons c r =>
          rw [hc] at hb
          have h7 : ¬ ((c :: r).length ≤ 6) := by
            intro h
            rw [decide_eq_true (by simp only [List.length_cons]; omega : (1 : Int) ≤ ((c :: r).length : Int)), decide_eq_true (by omega : ((c :: r).length : Int) ≤ 6)] at hb
            cases hb
          rw [vnL_cons, decide_eq_false h7]
          rfl
      rw [← e]
      exact hQ H2 (e1.trans e2)
    · obtain ⟨c, r, hc⟩ : ∃ c r, z.cps.toList = c :: r := by
        cases hc : z.cps.toList with
        | nil =>
          rw [len_tl, hc] at hb
          cases hb
        | cons c r => exact ⟨c, r, rfl⟩
      have h6 : z.cps.toList.length ≤ 6 := by
        rw [len_tl] at hb
        by_cases h : (z.cps.toList.length : Int) ≤ 6
        · omega
        · rw [decide_eq_false h] at hb
          simp at hb
      have hvn : vn z = (isL c && z.cps.toList.all fun d => isL d || isD d) := by
        unfold vn
        rw [hc]
        rw [vnL_cons, decide_eq_true (hc ▸ h6)]
        rfl
      refine Evl.q_when (b := !isL c) (Evl.et_test (Evl.ev_op (Evl.ev_op (Evl.ev_var rfl) Evl.ev_c (Evl.rv_ixS (c := c) (by omega) (atI_nat (j := 0) (by rw [hc]; rfl)))) Evl.ev_c rv_nsign)) (fun hb H2 e2 => Evl.s_ret Evl.ev_c fun H3 e3 => ?_) (fun hb H2 e2 => ?_)
      · have e : vn z = false := by
          rw [hvn]
          have : isL c = false := by simpa using hb
          rw [this]
          rfl
        rw [← e]
        exact hQ H3 ((e1.trans e2).trans e3)
      · have hL : isL c = true := by simpa using hb
        refine Evl.s_ret (v := .bl (vn z)) (Evl.ev_is (ev_cbL (el_lcS (p := fun _ => true) (g := fun d => .bl (isL d || isD d)) (Evl.ev_var rfl) (by omega) (fun _ => rfl) (fun _ _ _ _ => et_yes) (fun d H3 _ _ _ => Evl.ev_orV (Evl.ev_op (Evl.ev_var rfl) Evl.ev_c rv_sign) (fun _ => Evl.ev_op (Evl.ev_var rfl) Evl.ev_c rv_sign))) (fun p H3 hp _ => rc_all (bs := z.cps.toList.map fun d => isL d || isD d) (.inl (.inl ?_)))) ?_) (fun H3 e3 => hQ H3 ((e1.trans e2).trans e3))
        · rw [hp, List.filter_eq_self.mpr fun _ _ => rfl, List.map_map]
          rfl
        · rw [hvn, hL, List.all_map]
          rfl
theorem ok_good {f : Addr} {fd : FuncData} {k : Nat} (F : Fun K "_law_good" "_law_good" s_law_good f fd) (m_len : mg "len" = none) : FnOk P w K mg base CX0 (k + 1) f fd ["_law_word"] sp_vn := by
  refine F.ok sc_law_good (fun vs H Q E h => ?_) (fun cdv A outer s H vs Q E hr h => ?_)
  · obtain ⟨z, rfl, _⟩ := h
    rfl
  · obtain ⟨z, rfl, hz, hok, hQ⟩ := h
    have hzl : z.length ≤ sizeLine := Nat.le_of_lt (small1000 hz)
    have hll := len_tl z
    refine ⟨_, (pss_cons (ps_set (i := 1) sc_law_good.nd rfl (by first | exact .inl rfl | exact .inr rfl) pe_str)
  (pss_cons (ps_if (PW.pt (pw_or (pt_cmpR op_lt (pe_callB call_len_str (by rfl) m_len PySem.boot_len (pa_cons (pv 0) pa_nil)) pe_int (nomark _)) (pw_or (pt_cmpR op_gt (pe_callB call_len_str (by rfl) m_len PySem.boot_len (pa_cons (pv 0) pa_nil)) pe_int (nomark _)) (pw_or1 (pt_cmpR op_notIn_sign (pe_ix ix_str (pv 0) pe_int (fun _ _ => rfl)) (pv 1) rfl)))))
   (pss_one (ps_ret pe_bl))
   pss_nil)
  (pss_one (ps_ret (pe_cmpR (op_eqD hr.units) (pe_lc (own := [("_law_sign", 2)]) (g := gName 2) (by rfl) sc_law_good.nd (pi_str (pv 0)) (blkOk_by (own := [("_law_sign", 2)]) (N := n_law_good) (sc := defScope s_law_good) (by decide +kernel)) (fun _ _ _ _ _ => pg_name (i := 2) sc_law_good.nd rfl (by first | exact .inl rfl | exact .inr rfl)) (fun _ _ _ _ _ => (pts_one (pt_cmpR op_notIn_sign (pv 2) (pe_op op_add_str (pv 1) pe_str) rfl))) (fun _ _ _ _ _ => (pv 2))) (pe_lst pa_nil) (nomark _)))))), ?_⟩
    refine Evl.q_asg Evl.ev_c fun H0 e0 => ?_
    refine Evl.q_when (b := decide ((z.length : Int) < 1) || (decide ((6 : Int) < (z.length : Int)) || !isL (z.cps.toList.headD 0))) (Evl.et_or (Evl.et_test (Evl.ev_op (Evl.ev_cb (Evl.ea_cons (Evl.ev_var rfl) Evl.ea_nil) (rc_lenStr hzl)) Evl.ev_c Evl.rv_I0)) fun h1 =>
      Evl.et_or (Evl.et_test (Evl.ev_op (Evl.ev_cb (Evl.ea_cons (Evl.ev_var rfl) Evl.ea_nil) (rc_lenStr hzl)) Evl.ev_c Evl.rv_I0)) fun h2 => Evl.et_test (Evl.ev_op (Evl.ev_op (Evl.ev_var rfl) Evl.ev_c (Evl.rv_ixS (c := z.cps.toList.headD 0) (by omega) (atI_nat (j := 0) ?_))) (Evl.ev_var rfl) rv_nsign)) (fun hb H1 e1 => Evl.s_ret Evl.ev_c fun H2 e2 => ?_) (fun hb H1 e1 => ?_)
    · have : 0 < z.cps.toList.length := by
        have := of_decide_eq_false h1
        omega
      cases hc : z.cps.toList with
      | nil =>
        rw [hc] at this
        cases this
      | cons c r => rfl
    · have e : vn z = false := by
        unfold vn
        rw [hll] at hb
        cases hc : z.cps.toList with
        | nil => rfl
        | cons c r =>
          rw [hc] at hb
          rw [vnL_cons]
          by_cases h7 : (c :: r).length ≤ 6
          · rw [decide_eq_false (by simp only [List.length_cons]; omega : ¬ ((c :: r).length : Int) < 1), decide_eq_false (by omega : ¬ (6 : Int) < ((c :: r).length : Int))] at hb
            have : isL c = false := by simpa using hb
            rw [this]
            simp
          · rw [decide_eq_false h7]
            rfl
      rw [← e]
      exact hQ H2 ((e0.trans e1).trans e2)
    · obtain ⟨c, r, hc⟩ : ∃ c r, z.cps.toList = c :: r := by
        cases hc : z.cps.toList with
        | nil =>
          rw [hll, hc] at hb
          cases hb
        | cons c r => exact ⟨c, r, rfl⟩
      have hb' := hb
      rw [hll, Bool.or_eq_false_iff, Bool.or_eq_false_iff] at hb'
      have h6 : z.cps.toList.length ≤ 6 := by
        have := of_decide_eq_false hb'.2.1
        omega
      have hL : isL c = true := by
        have := hb'.2.2
        rw [hc] at this
        simpa using this
      have hvn : vn z = z.cps.toList.all fun d => isL d || isD d := by
        unfold vn
        rw [hc]
        rw [vnL_cons, decide_eq_true (hc ▸ h6), hL]
        rfl
      refine Evl.s_ret (v := .bl (vn z)) (Evl.ev_is (Evl.ev_opLL (el_lcS (p := fun d => !(decide (d ∈ (LET ++ DIG).cps.toList))) (g := fun d => .str ⟨#[d]⟩) (Evl.ev_var rfl) (by omega) (fun _ => rfl) (fun d H3 _ _ => Evl.et_test (Evl.ev_op (Evl.ev_var rfl) (Evl.ev_op (Evl.ev_var rfl) Evl.ev_c (rv_addS (by decide))) rv_nsign)) (fun d H3 _ _ _ => Evl.ev_var rfl)) (Evl.el_lst Evl.ea_nil (by decide)) (fun p q H3 hp hq _ => rv_eqD (d := .list ((z.cps.toList.filter fun d => !(decide (d ∈ (LET ++ DIG).cps.toList))).map fun d => .str ⟨#[d]⟩)) (e := .list []) (fun H4 e4 => .lst (.inl (.inl (e4 _ _ hp))) (dp_map fun d _ => .str _)) (fun H4 e4 => .lst (.inl (.inl (e4 _ _ hq))) .nil) ?_ sh_empty)) ?_) (fun H3 e3 => hQ H3 ((e0.trans e1).trans e3))
      · rw [show ((z.cps.toList.filter fun d => !(decide (d ∈ (LET ++ DIG).cps.toList))).map fun d => PyData.str ⟨#[d]⟩) = ((z.cps.toList.filter fun d => !(decide (d ∈ (LET ++ DIG).cps.toList))).map fun d => (⟨#[d]⟩ : Str)).map PyData.str by rw [List.map_map]; rfl]
        refine (good_strs fun y hy => ?_).shaped (by decide)
        obtain ⟨d, hd, rfl⟩ := List.mem_map.mp hy
        intro c' hc'
        have : c' = d := by simpa using hc'
        rw [this]
        exact hok d (List.mem_filter.mp hd).1
      · rw [eqv_nil_map, hvn]
        congr 1
        rw [Bool.eq_iff_iff, decide_eq_true_iff, List.filter_eq_nil_iff, List.all_eq_true]
        have hm : ∀ d, d ∈ (LET ++ DIG).cps.toList ↔ (d ∈ LET.cps.toList ∨ d ∈ DIG.cps.toList) := fun d => by
          rw [show (LET ++ DIG).cps.toList = LET.cps.toList ++ DIG.cps.toList from TL.tl_append LET DIG, List.mem_append]
        constructor
        · intro h d hd
          have := h d hd
          simp only [Bool.not_eq_true', decide_eq_false_iff_not, Classical.not_not, hm] at this
          simpa [isL, isD] using this
        · intro h d hd
          have := h d hd
          simp only [isL, isD, Bool.or_eq_true, decide_eq_true_iff] at this
          simp only [Bool.not_eq_true', decide_eq_false_iff_not, Classical.not_not, hm]
          exact this
end
end Lw

namespace Lw
open PySem PySem.Spec PyProof.Rows L2
abbrev s_law : Stmt := topS 10
abbrev n_law : List Str := ["_law_script", "_law_state", "_law_plan", "_law_signs_here", "_law_chars", "_law_k", "_law_word", "_law_actual"]
theorem sc_law : FnScope n_law ["_law_script"] (defScope s_law) := ⟨rfl, rfl, rfl, by decide +kernel, rfl, by decide +kernel, by decide +kernel⟩
section
variable {P : Program} {w : World} {K : PySem.W.Frag} {mg : Str → Option Value} {base : Heap}
/-- the signs -/
def sp_signs : Sp := fun vs H Q _ => vs = [] ∧ ∀ z : Str, z.length = 95 → SOk z → Q (.str z) H
theorem ok_signs {f : Addr} {fd : FuncData} {k : Nat} (F : Fun K "_law_signs" "_law_signs" s_law_signs f fd) : FnOk P w K mg base CX0 (k + 1) f fd [] sp_signs := by
  refine F.ok sc_law_signs (fun vs H Q E h => ?_) (fun cdv A outer s H vs Q E hr h => ?_)
  · obtain ⟨rfl, _⟩ := h
    rfl
  · obtain ⟨rfl, hQ⟩ := h
    refine ⟨_, (pss_cons (ps_set (i := 0) sc_law_signs.nd rfl (by first | exact .inl rfl | exact .inr rfl) pe_str)
  (pss_one (ps_ret (pe_op op_add_str (pv 0) pe_str)))), ?_⟩
    refine ⟨_, rfl, _, _, rfl, rfl, by decide +kernel, hQ _ (by decide +kernel) ?_⟩
    unfold SOk
    decide +kernel
def sp_law (K : PySem.W.Frag) : Sp := fun vs H Q _ => ∃ (a : Addr) (ns : List Int), vs = [.ref a] ∧ SqL K H a (ns.map V.int) ∧ ns.length ≤ 63 ∧ ∀ H', Q (.bl true) H'
theorem ok_law {f f1 f2 f3 f4 f5 : Addr} {fd fd1 fd2 fd3 fd4 fd5 : FuncData} (F : Fun K "law" "law" s_law f fd)
    (F_law_start : Fun K "_law_start" "_law_start" s_law_start f1 fd1) (b_law_start : Binds K fd1 ["_law_script"] []) (g_law_start : mg "_law_start" = some (.ref f1)) (G_law_start : FnOk P w K mg base CX0 1 f1 fd1 ["_law_script"] (sp_start K))
    (F_law_draw : Fun K "_law_draw" "_law_draw" s_law_draw f2 fd2) (b_law_draw : Binds K fd2 ["_law_state", "_law_size"] []) (g_law_draw : mg "_law_draw" = some (.ref f2)) (G_law_draw : FnOk P w K mg base CX0 1 f2 fd2 ["_law_state", "_law_size"] sp_draw)
    (F_law_signs : Fun K "_law_signs" "_law_signs" s_law_signs f3 fd3) (b_law_signs : Binds K fd3 [] []) (g_law_signs : mg "_law_signs" = some (.ref f3)) (G_law_signs : FnOk P w K mg base CX0 1 f3 fd3 [] sp_signs)
    (F_law_good : Fun K "_law_good" "_law_good" s_law_good f4 fd4) (b_law_good : Binds K fd4 ["_law_word"] []) (g_law_good : mg "_law_good" = some (.ref f4)) (G_law_good : FnOk P w K mg base CX0 1 f4 fd4 ["_law_word"] sp_vn)
    (F_valid_name : Fun K "valid_name" "valid_name" s_valid_name f5 fd5) (b_valid_name : Binds K fd5 ["text"] []) (g_valid_name : mg "valid_name" = some (.ref f5)) (G_valid_name : FnOk P w K mg base CX0 1 f5 fd5 ["text"] sp_vn)
    (kb_valid_name_text : KBinds K fd5 ["text"] ["text"] (fun us ws => us ++ ws) (fun us ws => us ++ ws))
    (m_len : mg "len" = none) (m_range : mg "range" = none) (m_isinstance : mg "isinstance" = none) (m_bool : mg "bool" = none) : FnOk P w K mg base CX0 2 f fd ["_law_script"] (sp_law K) := by
  refine F.ok sc_law (fun vs H Q E h => ?_) (fun cdv A outer s H vs Q E hr h => ?_)
  · obtain ⟨a, ns, rfl, _⟩ := h
    rfl
  · obtain ⟨a, ns, rfl, hS, hlen, hQ⟩ := h
    refine ⟨_, (pss_cons (ps_set (i := 1) sc_law.nd rfl (by first | exact .inl rfl | exact .inr rfl) (pe_call G_law_start (hr.mono (by decide)) (by rfl) g_law_start F_law_start.kp b_law_start .nil pass0 (pa_cons (pv 0) pa_nil)))
  (pss_cons (ps_set (i := 2) sc_law.nd rfl (by first | exact .inl rfl | exact .inr rfl) (pe_call G_law_draw (hr.mono (by decide)) (by rfl) g_law_draw F_law_draw.kp b_law_draw .nil pass0 (pa_cons (pv 1) (pa_cons pe_int pa_nil))))
  (pss_cons (ps_set (i := 3) sc_law.nd rfl (by first | exact .inl rfl | exact .inr rfl) pe_str)
  (Evl.pss_cut (ps_if (pt_cmpR op_eq (pv 2) pe_int (nomark _))
   (pss_one (ps_set (i := 3) sc_law.nd rfl (by first | exact .inl rfl | exact .inr rfl) (pe_call0 G_law_signs (hr.mono (by decide)) (by rfl) g_law_signs F_law_signs.kp b_law_signs .nil pass0)))
   pss_nil)
  (pss_cons (ps_setLc (i := 4) (own := [("_law_k", 5)]) (g := gName 5) (by rfl) sc_law.nd rfl rfl (sw_true rfl rfl rfl (by decide +kernel)) (pi_range1 (by rfl) m_range (pa_cons (pe_call G_law_draw (hr.mono (by decide)) (by rfl) g_law_draw F_law_draw.kp b_law_draw .nil pass0 (pa_cons (pv 1) (pa_cons (pe_ix ix_list (pe_lst (pa_cons pe_int (pa_cons pe_int (pa_cons pe_int (pa_cons pe_int pa_nil))))) (pe_call G_law_draw (hr.mono (by decide)) (by rfl) g_law_draw F_law_draw.kp b_law_draw .nil pass0 (pa_cons (pv 1) (pa_cons pe_int pa_nil))) (fun _ _ => rfl)) pa_nil))) pa_nil)) (blkOk_by (own := [("_law_k", 5)]) (N := n_law) (sc := defScope s_law) (by decide +kernel)) (fun _ _ _ _ _ => pg_name (i := 5) sc_law.nd rfl (by first | exact .inl rfl | exact .inr rfl)) (fun _ _ _ _ _ => pts_nil) (fun _ _ _ _ _ => (pe_ix ix_str (pv 3) (pe_call G_law_draw (hr.mono (by decide)) (by rfl) g_law_draw F_law_draw.kp b_law_draw .nil pass0 (pa_cons (pv 1) (pa_cons (pe_callB call_len_str (by rfl) m_len PySem.boot_len (pa_cons (pv 3) pa_nil)) pa_nil))) (fun _ _ => rfl))))
  (Evl.pss_cut (ps_if (PW.pt (pw_and (pt_cmpR op_eq (pv 2) pe_int (nomark _)) (pw_and1 (pt_cmpR (op_neD hr.units) (pv 4) (pe_lst pa_nil) (nomark _)))))
   (pss_one (ps_asg (pe_ix ix_str (pe_call0 G_law_signs (hr.mono (by decide)) (by rfl) g_law_signs F_law_signs.kp b_law_signs .nil pass0) (pe_call G_law_draw (hr.mono (by decide)) (by rfl) g_law_draw F_law_draw.kp b_law_draw .nil pass0 (pa_cons (pv 1) (pa_cons (pe_callB call_len_str (by rfl) m_len PySem.boot_len (pa_cons (pe_call0 G_law_signs (hr.mono (by decide)) (by rfl) g_law_signs F_law_signs.kp b_law_signs .nil pass0) pa_nil)) pa_nil))) (fun _ _ => rfl)) (pg_sub (pv 4) (pe_call G_law_draw (hr.mono (by decide)) (by rfl) g_law_draw F_law_draw.kp b_law_draw .nil pass0 (pa_cons (pv 1) (pa_cons (pe_callB call_len_seq (by rfl) m_len PySem.boot_len (pa_cons (pv 4) pa_nil)) pa_nil))) set_list)))
   pss_nil)
  (pss_cons (ps_set (i := 6) sc_law.nd rfl (by first | exact .inl rfl | exact .inr rfl) (pe_join pe_str (pv 4)))
  (Evl.pss_cut (ps_if (pt_cmpR op_eq (pe_call G_law_draw (hr.mono (by decide)) (by rfl) g_law_draw F_law_draw.kp b_law_draw .nil pass0 (pa_cons (pv 1) (pa_cons pe_int pa_nil))) pe_int (nomark _))
   (pss_one (ps_set (i := 6) sc_law.nd rfl (by first | exact .inl rfl | exact .inr rfl) (pe_ix ix_list (pe_lst (pa_cons (pe_op op_add_str (pv 6) pe_str) (pa_cons (pe_op op_add_str (pv 6) pe_str) (pa_cons (pe_op op_add_str pe_str (pv 6)) (pa_cons (pe_op op_add_str pe_str (pv 6)) pa_nil))))) (pe_call G_law_draw (hr.mono (by decide)) (by rfl) g_law_draw F_law_draw.kp b_law_draw .nil pass0 (pa_cons (pv 1) (pa_cons pe_int pa_nil))) (fun _ _ => rfl))))
   pss_nil)
  (pss_cons (ps_set (i := 7) sc_law.nd rfl (by first | exact .inl rfl | exact .inr rfl) (pe_call G_valid_name (hr.mono (by decide)) (by rfl) g_valid_name F_valid_name.kp b_valid_name .nil pass0 (pa_cons (pv 6) pa_nil)))
  (pss_cons (ps_if (PW.pt (pw_or (pt_not (pt_val (pe_callB call_isi (by rfl) m_isinstance (by decide +kernel) (pa_cons (pv 7) (pa_cons (pe_bltn (v := .ty "bool") (by rfl) m_bool (by decide +kernel) rfl) pa_nil))))) (pw_or1 (pt_cmpR op_ne (pv 7) (pe_call G_law_good (hr.mono (by decide)) (by rfl) g_law_good F_law_good.kp b_law_good .nil pass0 (pa_cons (pv 6) pa_nil)) (nomark _)))))
   (pss_one (ps_ret pe_bl))
   pss_nil)
  (pss_one (ps_ret (pe_cmpR op_eq (pe_callK0 G_valid_name (hr.mono (by decide)) (by rfl) g_valid_name F_valid_name.kp kb_valid_name_text pass0 (pk_cons (pe_revS (pv 6)) pk_nil)) (pe_call G_law_good (hr.mono (by decide)) (by rfl) g_law_good F_law_good.kp b_law_good .nil pass0 (pa_cons (pe_revS (pv 6)) pa_nil)) (nomark _)))))))))))))), ?_⟩
    refine ⟨.ref a, rfl, a, ns, rfl, hS, hlen, fun st H1 D1 _ => ?_⟩
    refine ⟨.ref st, rfl, st, 3, 0, rfl, D1, by omega, by omega, by omega, fun plan H2 _ _ D2 _ => ?_⟩
    refine ⟨fun σ' H' => ∃ z, σ' = [some (.ref a), some (.ref st), some (.int plan), some (.str z), none, none, none, none] ∧ DS H' st 1 ∧ 0 < z.length ∧ z.length ≤ 95 ∧ SOk z, ?_, ?_⟩
    · refine ⟨.int plan, rfl, rfl, _, rfl, ite2 (fun _ => ?_) (fun _ => ?_)⟩
      · exact ⟨rfl, fun z hz ho => ⟨z, rfl, D2, by omega, by omega, ho⟩⟩
      · exact ⟨_, rfl, D2, by decide, by decide, by unfold SOk; decide +kernel⟩
    rintro σ' H' ⟨z, rfl, D3, z0, z1, zo⟩
    have zl : z.length ≤ sizeLine := Nat.le_trans z1 (by decide)
    -- chars
    refine ⟨.ref st, rfl, Nat.le_trans (by decide : 4 ≤ 1000) (by decide), fun p np => ?_⟩
    refine ⟨.ref st, rfl, st, 4, 1, rfl, D3.new np, by omega, by omega, by omega, fun d1 H3 d10 d11 D4 k4 => ?_⟩
    have ap4 := k4 _ _ (D3.fresh np)
    obtain ⟨v, hv, hm⟩ := atI_some (xs := [V.int 9, V.int 9, V.int 9, V.int 80]) d10 d11
    obtain ⟨size, rfl, hs0, hs1⟩ : ∃ size : Int, v = .int size ∧ 0 < size ∧ size ≤ 80 := by
      simp only [List.mem_cons, List.not_mem_nil, or_false] at hm
      rcases hm with rfl | rfl | rfl | rfl
      · exact ⟨9, rfl, by omega, by omega⟩
      · exact ⟨9, rfl, by omega, by omega⟩
      · exact ⟨9, rfl, by omega, by omega⟩
      · exact ⟨80, rfl, by omega, by omega⟩
    refine ⟨p, _, d1, .int size, rfl, rfl, .inl (.inl ap4.1), hv, st, size, 2, rfl, D4, by omega, hs0, by omega, fun n H4 n0 n1 D5 k5 => ?_⟩
    refine ⟨n, rfl, by omega, by omega, fun Dl nD => ?_⟩
    refine lc_range (lo := 0) (n := n.toNat) (fun i H' => ∃ zs : List Str, DS H' st (3 + i) ∧ Ap H' st Dl (.lst (zs.map V.str)) ∧ zs.length = i ∧ ∀ z ∈ zs, Sg z) ⟨[], D5.new nD, D5.fresh nD, rfl, fun _ h => by simp at h⟩ (fun i H' hi ⟨zs, D, ap, hl, hz⟩ => ?_) (fun H' ⟨zs, D, ap, hl, hz⟩ => ?_)
    · refine ⟨rfl, .str z, rfl, .ref st, rfl, .str z, rfl, z, rfl, zl, st, (z.length : Int), 3 + i, rfl, D, by omega, by omega, by omega, fun d H2 d0 d1 D' kp => ?_⟩
      obtain ⟨c, hc, hmem⟩ := atI_some (xs := z.cps.toList) d0 (by rw [← len_tl]; exact d1)
      have ap' := kp _ _ ap
      refine ⟨z, d, c, rfl, rfl, zl, hc, _, ap'.1, ?_, zs ++ [⟨#[c]⟩], D'.put ap', ?_, ?_, ?_⟩
      · rw [List.length_map]
        exact small1000 (by omega)
      · rw [List.map_append]
        exact D'.putA ap'
      · rw [List.length_append, hl]
        rfl
      · intro y hy
        rcases List.mem_append.mp hy with hy | hy
        · exact hz y hy
        · rw [List.mem_singleton.mp hy]
          exact sg_one zo hmem
    -- if plan == 2 and chars != []
    have hl80 : zs.length ≤ 80 := by omega
    have D6 := D.mono (m := 100) (by omega)
    clear D hl
    refine ⟨fun σ2 H2 => ∃ zs : List Str, σ2 = [some (.ref a), some (.ref st), some (.int plan), some (.str z), some (.ref Dl), none, none, none] ∧ DS H2 st 200 ∧ Ap H2 st Dl (.lst (zs.map V.str)) ∧ zs.length ≤ 80 ∧ ∀ z ∈ zs, Sg z, ?_, ?_⟩
    · refine ⟨.int plan, rfl, rfl, _, rfl, ite2 (fun _ => ?_) (fun _ => ⟨zs, rfl, D6.mono (by omega), ap, hl80, hz⟩)⟩
      refine ⟨.ref Dl, rfl, Nat.zero_le _, fun e ne => ?_⟩
      have D7 := D6.new (o := .lst []) ne
      have ap7 := D6.newK (o := .lst []) ne _ _ ap
      refine ⟨_, _, dp_strs (.inl (.inl ap7.1)), dp_empty (.inl (.inl upd_same)), (good_strs fun z h => (hz z h).2).shaped (by decide), sh_empty, _, rfl, ?_⟩
      rw [eqv_nil_map]
      by_cases h0 : zs = []
      · rw [decide_eq_true h0]
        exact ⟨zs, rfl, D7.mono (by omega), ap7, hl80, hz⟩
      rw [decide_eq_false h0]
      have hpos := List.length_pos_iff.mpr h0
      refine ⟨rfl, fun y hy yo => ?_⟩
      refine ⟨.ref st, rfl, rfl, fun y2 hy2 _ => ?_⟩
      have y2l : y2.length ≤ sizeLine := Nat.le_trans (by omega : y2.length ≤ 1000) (by decide)
      have yl : y.length ≤ sizeLine := Nat.le_trans (by omega : y.length ≤ 1000) (by decide)
      refine ⟨y2, rfl, y2l, st, (y2.length : Int), 100, rfl, D7, by omega, by omega, by omega, fun d H8 d0 d1 D8 k8 => ?_⟩
      have ap8 := k8 _ _ ap7
      obtain ⟨c, hc, hmem⟩ := atI_some (xs := y.cps.toList) d0 (by rw [← len_tl]; omega)
      refine ⟨y, d, c, rfl, rfl, yl, hc, ?_⟩
      refine ⟨.ref Dl, rfl, .ref st, rfl, .ref Dl, rfl, Dl, _, rfl, .inl (.inl (.inl ap8.1)), st, ((zs.map V.str).length : Int), 101, rfl, D8, by omega, by rw [List.length_map]; omega, by rw [List.length_map]; omega, fun d2 H9 d20 d21 D9 k9 => ?_⟩
      have ap9 := k9 _ _ ap8
      obtain ⟨j, hj, hjl⟩ := ixN_some d20 d21
      rw [List.length_map] at hjl
      refine ⟨Dl, _, d2, j, rfl, rfl, ap9.1, hj, zs.set j ⟨#[c]⟩, rfl, (D9.put ap9).mono (by omega), ?_, by rw [List.length_set]; exact hl80, ?_⟩
      · rw [List.map_set]
        exact D9.putA ap9
      · intro x hx
        rcases List.mem_or_eq_of_mem_set hx with h | rfl
        · exact hz x h
        · exact sg_one yo hmem
    clear hz ap hl80 D6 zs
    rintro σ2 H2 ⟨zs, rfl, D6, ap, hl80, hz⟩
    -- word
    obtain ⟨jl, jo⟩ := join_sg hz
    have hsum : (zs.map (·.length)).sum = zs.length := by
      clear jl jo ap hl80 
      induction zs with
      | nil => rfl
      | cons x r ih =>
        rw [List.map_cons, List.sum_cons, ih fun y hy => hz y (List.mem_cons_of_mem _ hy), (hz x List.mem_cons_self).1, List.length_cons]
        omega
    refine ⟨⟨_, rfl⟩, .ref Dl, rfl, _, Dl, zs, rfl, rfl, .inl (.inl (.inl ap.1)), ?_, ?_⟩
    · rw [hsum]
      show zs.length + zs.length * 0 ≤ 16777216
      omega
    generalize hw : Txt.join _ zs = word
    have hwl : word.length ≤ 80 ∧ SOk word := by
      rw [← hw]
      exact ⟨by omega, jo⟩
    clear hw jl jo hsum
    refine ⟨fun σ3 H3 => ∃ z, ∃ o4, σ3 = [some (.ref a), some (.ref st), some (.int plan), o4, some (.ref Dl), none, some (.str z), none] ∧ z.length ≤ 82 ∧ SOk z, ?_, ?_⟩
    · refine ⟨.ref st, rfl, st, 6, 200, rfl, D6, by omega, by omega, by omega, fun d H7 _ _ D7 _ => ⟨rfl, _, rfl, ite2 (fun _ => ?_) (fun _ => ⟨word, _, rfl, by omega, hwl.2⟩)⟩⟩
      have sa : ∀ {x y : Str}, x.length ≤ 80 → y.length ≤ 1 → x.length + y.length ≤ sizeLine := fun h1 h2 => Nat.le_trans (by omega : _ ≤ 1000) (by decide)
      have sb : ∀ {x y : Str}, x.length ≤ 1 → y.length ≤ 80 → x.length + y.length ≤ sizeLine := fun h1 h2 => Nat.le_trans (by omega : _ ≤ 1000) (by decide)
      refine ⟨.str word, rfl, word, _, rfl, rfl, sa hwl.1 (by decide), .str word, rfl, word, _, rfl, rfl, sa hwl.1 (by decide), .str word, rfl, _, word, rfl, rfl, sb (by decide) hwl.1, .str word, rfl, _, word, rfl, rfl, sb (by decide) hwl.1, Nat.le_trans (by decide : 4 ≤ 1000) (by decide), fun p np => ?_⟩
      refine ⟨.ref st, rfl, st, 4, 201, rfl, D7.new np, by omega, by omega, by omega, fun d8 H8 d80 d81 D8 k8 => ?_⟩
      have ap8 := k8 _ _ (D7.fresh np)
      obtain ⟨v, hv, hm⟩ := atI_some (xs := [V.str (word ++ "\n"), V.str (word ++ " "), V.str (" " ++ word), V.str ("\n" ++ word)]) d80 d81
      refine ⟨p, _, d8, v, rfl, rfl, .inl (.inl ap8.1), hv, ?_⟩
      simp only [List.mem_cons, List.not_mem_nil, or_false] at hm
      rcases hm with rfl | rfl | rfl | rfl
      · exact ⟨_, _, rfl, by rw [len_append]; exact Nat.le_trans (Nat.add_le_add hwl.1 (by decide : _ ≤ 1)) (by decide), sok_append hwl.2 (by unfold SOk; decide +kernel)⟩
      · exact ⟨_, _, rfl, by rw [len_append]; exact Nat.le_trans (Nat.add_le_add hwl.1 (by decide : _ ≤ 1)) (by decide), sok_append hwl.2 (by unfold SOk; decide +kernel)⟩
      · exact ⟨_, _, rfl, by rw [len_append]; exact Nat.le_trans (Nat.add_le_add (by decide : _ ≤ 1) hwl.1) (by decide), sok_append (by unfold SOk; decide +kernel) hwl.2⟩
      · exact ⟨_, _, rfl, by rw [len_append]; exact Nat.le_trans (Nat.add_le_add (by decide : _ ≤ 1) hwl.1) (by decide), sok_append (by unfold SOk; decide +kernel) hwl.2⟩
    rintro σ3 H3 ⟨y, o4, rfl, yl, yo⟩
    have ry : (revS y).length ≤ 1000 := by
      rw [revS_len]
      omega
    have yl2 : y.length ≤ sizeLine := Nat.le_trans (by omega : y.length ≤ 1000) (by decide)
    refine ⟨.str y, rfl, y, rfl, by omega, yo, fun H4 _ => ?_⟩
    refine ⟨.bl (vn y), rfl, .bl (vn y), .ty "bool", .type "bool", .type "bool", true, rfl, .ty _, .base (.bl _), kit_ty (by decide +kernel), true, rfl, ?_⟩
    refine ⟨.bl (vn y), rfl, .str y, rfl, y, rfl, by omega, yo, fun H5 _ => ⟨rfl, _, rfl, ?_⟩⟩
    rw [decide_eq_true rfl]
    refine ⟨.str y, rfl, y, rfl, yl2, revS y, rfl, ry, sok_rev yo, fun H6 _ => ?_⟩
    refine ⟨.str y, rfl, y, rfl, yl2, revS y, rfl, ry, sok_rev yo, fun H7 _ => ⟨rfl, ?_⟩⟩
    rw [decide_eq_true rfl]
    exact hQ _
end
end Lw

namespace Lw
open PySem PySem.Spec PyProof.Rows L2
theorem all_mk {l : PySem.W.OpenLaw} {w : World} {K : PySem.W.Frag} {h : Heap} {mg : Str → Option Value} {fa f5 : Addr} (X : K.In h) (G : h.Ns mainGlobals mg) (hfa : mg "law" = some (.ref fa))
    {od0 an0 : Option Addr} {sl0 : Array (Option Value)} {oc0 kV0 dc0 pm0 cd0 ct0 : Value} {f0 : Addr} {od1 an1 : Option Addr} {sl1 : Array (Option Value)} {oc1 kV1 dc1 pm1 cd1 ct1 : Value} {f1 : Addr} {od2 an2 : Option Addr} {sl2 : Array (Option Value)} {oc2 kV2 dc2 pm2 cd2 ct2 : Value} {f2 : Addr} {od3 an3 : Option Addr} {sl3 : Array (Option Value)} {oc3 kV3 dc3 pm3 cd3 ct3 : Value} {f3 : Addr} {od4 an4 : Option Addr} {sl4 : Array (Option Value)} {oc4 kV4 dc4 pm4 cd4 ct4 : Value} {f4 : Addr} {od5 an5 : Option Addr} {sl5 : Array (Option Value)} {oc5 kV5 dc5 pm5 cd5 ct5 : Value} {u_LETTERS : Value} {u_DIGITS : Value} {u_MOST_SIGNS : Value}
    (a0 : PySem.W.nsIn K mainGlobals "valid_name" = some (some (.ref f0))) (l0 : K.lookup f0 = some ⟨oc0, od0, .func (PySem.W.fnOf "valid_name" "valid_name" (defArgs s_valid_name) (defBody s_valid_name) (defScope s_valid_name) .none kV0 dc0 pm0 an0 cd0 ct0), sl0⟩) (c0 : PySem.W.codeIn K cd0 "valid_name" = true) (k0 : PySem.W.keepIn K (.ref f0) = true)
    (a1 : PySem.W.nsIn K mainGlobals "_law_start" = some (some (.ref f1))) (l1 : K.lookup f1 = some ⟨oc1, od1, .func (PySem.W.fnOf "_law_start" "_law_start" (defArgs s_law_start) (defBody s_law_start) (defScope s_law_start) .none kV1 dc1 pm1 an1 cd1 ct1), sl1⟩) (c1 : PySem.W.codeIn K cd1 "_law_start" = true) (k1 : PySem.W.keepIn K (.ref f1) = true)
    (a2 : PySem.W.nsIn K mainGlobals "_law_draw" = some (some (.ref f2))) (l2 : K.lookup f2 = some ⟨oc2, od2, .func (PySem.W.fnOf "_law_draw" "_law_draw" (defArgs s_law_draw) (defBody s_law_draw) (defScope s_law_draw) .none kV2 dc2 pm2 an2 cd2 ct2), sl2⟩) (c2 : PySem.W.codeIn K cd2 "_law_draw" = true) (k2 : PySem.W.keepIn K (.ref f2) = true)
    (a3 : PySem.W.nsIn K mainGlobals "_law_signs" = some (some (.ref f3))) (l3 : K.lookup f3 = some ⟨oc3, od3, .func (PySem.W.fnOf "_law_signs" "_law_signs" (defArgs s_law_signs) (defBody s_law_signs) (defScope s_law_signs) .none kV3 dc3 pm3 an3 cd3 ct3), sl3⟩) (c3 : PySem.W.codeIn K cd3 "_law_signs" = true) (k3 : PySem.W.keepIn K (.ref f3) = true)
    (a4 : PySem.W.nsIn K mainGlobals "_law_good" = some (some (.ref f4))) (l4 : K.lookup f4 = some ⟨oc4, od4, .func (PySem.W.fnOf "_law_good" "_law_good" (defArgs s_law_good) (defBody s_law_good) (defScope s_law_good) .none kV4 dc4 pm4 an4 cd4 ct4), sl4⟩) (c4 : PySem.W.codeIn K cd4 "_law_good" = true) (k4 : PySem.W.keepIn K (.ref f4) = true)
    (a5 : PySem.W.nsIn K mainGlobals "law" = some (some (.ref f5))) (l5 : K.lookup f5 = some ⟨oc5, od5, .func (PySem.W.fnOf "law" "law" (defArgs s_law) (defBody s_law) (defScope s_law) .none kV5 dc5 pm5 an5 cd5 ct5), sl5⟩) (c5 : PySem.W.codeIn K cd5 "law" = true) (k5 : PySem.W.keepIn K (.ref f5) = true)
    (z_abs : PySem.W.nsIn K mainGlobals "abs" = some none)
    (z_list : PySem.W.nsIn K mainGlobals "list" = some none)
    (z_int : PySem.W.nsIn K mainGlobals "int" = some none)
    (z_len : PySem.W.nsIn K mainGlobals "len" = some none)
    (z_all : PySem.W.nsIn K mainGlobals "all" = some none)
    (z_range : PySem.W.nsIn K mainGlobals "range" = some none)
    (z_isinstance : PySem.W.nsIn K mainGlobals "isinstance" = some none)
    (z_bool : PySem.W.nsIn K mainGlobals "bool" = some none)
    (q_LETTERS : PySem.W.nsIn K mainGlobals "LETTERS" = some (some u_LETTERS)) (r_LETTERS : L2.RelV (.str LET) u_LETTERS)
    (q_DIGITS : PySem.W.nsIn K mainGlobals "DIGITS" = some (some u_DIGITS)) (r_DIGITS : L2.RelV (.str DIG) u_DIGITS)
    (q_MOST_SIGNS : PySem.W.nsIn K mainGlobals "MOST_SIGNS" = some (some u_MOST_SIGNS)) (r_MOST_SIGNS : L2.RelV (.int 6) u_MOST_SIGNS) :
    ∃ fd : FuncData, (∀ (s : Shared) (v : Value), BindsTo s fd ⟨[v], []⟩ [("_law_script", v)]) ∧ ∀ base : Heap, K.In base → base.Ns mainGlobals mg → FnOk l.prog w K mg base CX0 2 fa fd ["_law_script"] (sp_law K) := by
  have e := hfa.symm.trans (PySem.W.mg_of X G a5)
  cases e
  have F_valid_name := fun_mk (st := s_valid_name) l0 c0 k0
  have g_valid_name := PySem.W.mg_of X G a0
  have b_valid_name := F_valid_name.binds (ps := ["text"]) fun _ _ _ _ _ _ us hl => match us, hl with | [_], _ => rfl
  have F_law_start := fun_mk (st := s_law_start) l1 c1 k1
  have g_law_start := PySem.W.mg_of X G a1
  have b_law_start := F_law_start.binds (ps := ["_law_script"]) fun _ _ _ _ _ _ us hl => match us, hl with | [_], _ => rfl
  have F_law_draw := fun_mk (st := s_law_draw) l2 c2 k2
  have g_law_draw := PySem.W.mg_of X G a2
  have b_law_draw := F_law_draw.binds (ps := ["_law_state", "_law_size"]) fun _ _ _ _ _ _ us hl => match us, hl with | [_, _], _ => rfl
  have F_law_signs := fun_mk (st := s_law_signs) l3 c3 k3
  have g_law_signs := PySem.W.mg_of X G a3
  have b_law_signs := F_law_signs.binds (ps := []) fun _ _ _ _ _ _ us hl => match us, hl with | [], _ => rfl
  have F_law_good := fun_mk (st := s_law_good) l4 c4 k4
  have g_law_good := PySem.W.mg_of X G a4
  have b_law_good := F_law_good.binds (ps := ["_law_word"]) fun _ _ _ _ _ _ us hl => match us, hl with | [_], _ => rfl
  have F_law := fun_mk (st := s_law) l5 c5 k5
  have m_abs := PySem.W.mg_none_of X G z_abs
  have m_list := PySem.W.mg_none_of X G z_list
  have m_int := PySem.W.mg_none_of X G z_int
  have m_len := PySem.W.mg_none_of X G z_len
  have m_all := PySem.W.mg_none_of X G z_all
  have m_range := PySem.W.mg_none_of X G z_range
  have m_isinstance := PySem.W.mg_none_of X G z_isinstance
  have m_bool := PySem.W.mg_none_of X G z_bool
  have m_LETTERS : ∃ u, mg "LETTERS" = some u ∧ L2.RelV (.str LET) u := ⟨_, PySem.W.mg_of X G q_LETTERS, r_LETTERS⟩
  have m_DIGITS : ∃ u, mg "DIGITS" = some u ∧ L2.RelV (.str DIG) u := ⟨_, PySem.W.mg_of X G q_DIGITS, r_DIGITS⟩
  have m_MOST_SIGNS : ∃ u, mg "MOST_SIGNS" = some u ∧ L2.RelV (.int 6) u := ⟨_, PySem.W.mg_of X G q_MOST_SIGNS, r_MOST_SIGNS⟩
  have kb_valid_name_text : KBinds K (PySem.W.fnOf "valid_name" "valid_name" (defArgs s_valid_name) (defBody s_valid_name) (defScope s_valid_name) .none kV0 dc0 pm0 an0 cd0 ct0) ["text"] ["text"] (fun us ws => us ++ ws) (fun us ws => us ++ ws) := ⟨fun s us ws _ hl => match us, ws, hl with
    | [], [_], _ => .of_eq rfl
    | [_], [], _ => .of_eq rfl, fun r1 r2 => r1.append r2⟩
  refine ⟨PySem.W.fnOf "law" "law" (defArgs s_law) (defBody s_law) (defScope s_law) .none kV5 dc5 pm5 an5 cd5 ct5, fun s v => .of_eq rfl, fun base _ _ => ?_⟩
  exact ok_law F_law F_law_start b_law_start g_law_start (ok_start F_law_start m_abs m_list) F_law_draw b_law_draw g_law_draw (ok_draw F_law_draw m_int m_len) F_law_signs b_law_signs g_law_signs (ok_signs F_law_signs)
    F_law_good b_law_good g_law_good (ok_good F_law_good m_len) F_valid_name b_valid_name g_valid_name (ok_vn F_valid_name m_len m_all m_LETTERS m_DIGITS m_MOST_SIGNS) kb_valid_name_text m_len m_range m_isinstance m_bool
end Lw
open PySem PySem.W PyProof.Rows
set_option maxHeartbeats 0 in
theorem PySem.Challenge.cw_bundlekinds_k01_valid_names_holds : PySem.Challenge.rw_bundlekinds_k01_valid_names.Holds := by
  w_on; o_law; k_head; (case hw => w_witness2)
  k_fill
  refine L2.walk_of (l := PySem.Challenge.rw_bundlekinds_k01_valid_names) (n := 63) (k := 2) (x := "_law_script") (CX := fun _ => L2.CX0) (sp := fun w => Lw.sp_law _) rfl (by decide) rfl ⟨rfl, by decide, by decide⟩ (fun w h Y => PySem.W.kIn_of Y) ?F (fun _ _ a ns hl _ hS => ⟨a, ns, rfl, hS, hl, fun _ => rfl⟩) (fun _ _ _ _ _ h => h)
  case F =>
    intro w mg fa h KX G hmg
    refine' Lw.all_mk KX G hmg ?a0 ?l0 ?c0 ?k0 ?a1 ?l1 ?c1 ?k1 ?a2 ?l2 ?c2 ?k2 ?a3 ?l3 ?c3 ?k3 ?a4 ?l4 ?c4 ?k4 ?a5 ?l5 ?c5 ?k5 ?z_abs ?z_list ?z_int ?z_len ?z_all ?z_range ?z_isinstance ?z_bool ?q_LETTERS ?r_LETTERS ?q_DIGITS ?r_DIGITS ?q_MOST_SIGNS ?r_MOST_SIGNS
    (case a0 => k_is); (case l0 => k_is); (case c0 => k_is); (case k0 => k_is); (case a1 => k_is); (case l1 => k_is); (case c1 => k_is); (case k1 => k_is); (case a2 => k_is); (case l2 => k_is); (case c2 => k_is); (case k2 => k_is); (case a3 => k_is); (case l3 => k_is); (case c3 => k_is); (case k3 => k_is); (case a4 => k_is); (case l4 => k_is); (case c4 => k_is); (case k4 => k_is); (case a5 => k_is); (case l5 => k_is); (case c5 => k_is); (case k5 => k_is); (case z_abs => k_is); (case z_list => k_is); (case z_int => k_is); (case z_len => k_is); (case z_all => k_is); (case z_range => k_is); (case z_isinstance => k_is); (case z_bool => k_is); (case q_LETTERS => k_is); (case r_LETTERS => exact ⟨_, rfl⟩); (case q_DIGITS => k_is); (case r_DIGITS => exact ⟨_, rfl⟩); (case q_MOST_SIGNS => k_is); (case r_MOST_SIGNS => exact ⟨_, rfl⟩)
