/-
  What is handed in to the laws of layer 8.
-/
import Derived.Test.YtflibcfecnhjgaaDoorFrameT
import Derived.Test.YtflibcfecnhjgaaDoorGShown
